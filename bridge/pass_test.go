package bridge_test

import (
	"bytes"
	"testing"

	"sandglass/api"
	"sandglass/bridge"
	"sandglass/ether"
)

// Addresses of no flow.
var (
	here1 = api.Mac{2, 1}
	here2 = api.Mac{2, 2}
	all   = api.Mac{255, 255, 255, 255, 255, 255}
)

// bare is a frame without tags from one address to another one.
func bare(dst, src api.Mac, data ...byte) ether.Frame {
	return ether.Frame{Dst: dst, Src: src, Type: 0x900, Data: data}
}

// tagged is a frame with a tag.
func tagged(f ether.Frame, vid, prio int, drop bool) ether.Frame {
	f.Tagged, f.Vid, f.Prio, f.Drop = true, vid, prio, drop
	return f
}

// goes is a frame at some ports, as it goes out.
func goes(t *testing.T, f ether.Frame, class int, drop bool, ports ...int) []bridge.Out {
	t.Helper()
	var list []bridge.Out
	for _, port := range ports {
		list = append(list, bridge.Out{Port: port, Class: class, Drop: drop, Bytes: encode(t, f)})
	}
	return list
}

// P23.4: a node that is no bridge is told frames as its own, whatever they are, and counts none.
func TestOwn(t *testing.T) {
	f := bridge.Flow{Vid: 9, Mac: api.Mac{1, 1}, In: 0, Outs: 2, Max: 70}
	c := conf(5, 3, f)
	c.Relay = false
	b := newNode(t, c)
	for n, x := range []ether.Frame{
		bare(here1, here2), bare(all, here2, 1, 2, 3), bare(ether.Of(5), here1), bare(api.Mac{1, 0x80, 0xc2, 0, 0, 0x0f}, here1),
		tagged(bare(here1, here2), 0, 7, true), tagged(bare(here1, here2), 1, 3, false), tagged(bare(f.Mac, here1), 9, 7, false), tagged(bare(here1, ptpMac), 4094, 0, false),
		{Dst: f.Mac, Src: here1, Tagged: true, Vid: 9, Prio: 7, Many: true, Seq: 65535, Type: 0x800, Data: make([]byte, 1570)},
		{Dst: here1, Type: 0x88f7},
	} {
		bytes := encode(t, x)
		outs, own := b.In(n%3, bytes, times[n])
		if len(outs) != 0 || text(own) != text([]ether.Frame{x}) {
			t.Errorf("of %+v goes out %+v, own are %+v", x, outs, own)
		}
		clear(own[0].Data)
		if text(bytes) != text(encode(t, x)) {
			t.Error("what is the node's own is a part of what was handed in")
		}
	}
	holdCounts(t, b, nil)
	holdPlaces(t, b, 0)
}

// P23.4: a frame without a tag, or with VLAN 0 or 1, goes out everywhere else, without a tag; its class is its priority, 5 at most.
func TestPassBare(t *testing.T) {
	b := newNode(t, conf(5, 4))
	x := bare(all, here1, 1, 2, 3)
	for port, others := range [][]int{{1, 2, 3}, {0, 2, 3}, {0, 1, 3}, {0, 1, 2}} {
		holdOuts(t, b, port, encode(t, x), goes(t, x, 0, false, others...)...)
		for vid := range 2 {
			for prio, class := range []int{0, 1, 2, 3, 4, 5, 5, 5} {
				for _, drop := range []bool{false, true} {
					holdOuts(t, b, port, encode(t, tagged(x, vid, prio, drop)), goes(t, x, class, drop, others...)...)
				}
			}
		}
	}
	holdCounts(t, b, nil)
}

// P23.4: what else a frame is stays as it is, be it short or as long as one may be; without its tag it is shorter.
func TestPassAsIs(t *testing.T) {
	b := newNode(t, conf(5, 2))
	for _, size := range []int{0, 1, 39, 40, 41, 44, 45, 100, 1570} {
		data := bytes.Repeat([]byte{170}, size)
		x := ether.Frame{Dst: here1, Src: here2, Many: true, Seq: 777, Type: 0xffff, Data: data}
		holdOuts(t, b, 0, encode(t, x), goes(t, x, 0, false, 1)...)
		holdOuts(t, b, 0, encode(t, tagged(x, 1, 4, true)), goes(t, x, 4, true, 1)...)
		x.Many, x.Seq = false, 0
		holdOuts(t, b, 0, encode(t, x), goes(t, x, 0, false, 1)...)
		holdOuts(t, b, 0, encode(t, tagged(x, 0, 7, false)), goes(t, x, 5, false, 1)...)
	}
	x := bare(here1, here2, make([]byte, 1580)...)
	holdOuts(t, b, 0, encode(t, x), goes(t, x, 0, false, 1)...)
	holdCounts(t, b, nil)
}

// P23.4: all goes out where addresses were seen, be there links or not; where it came in it doesn't, which is Nowhere.
func TestPassSeen(t *testing.T) {
	for _, gone := range []int{0, 5, 15} {
		b := linked(t, 4, gone)
		x, y := bare(here2, here1), bare(here1, here2)
		holdOuts(t, b, 0, encode(t, x), goes(t, x, 0, false, 1, 2, 3)...)
		holdPlaces(t, b, 1)
		holdOuts(t, b, 2, encode(t, y), goes(t, y, 0, false, 0)...)
		holdPlaces(t, b, 2)
		holdOuts(t, b, 0, encode(t, x), goes(t, x, 0, false, 2)...)
		holdOuts(t, b, 3, encode(t, tagged(x, 1, 6, true)), goes(t, x, 5, true, 2)...)
		holdOuts(t, b, 2, encode(t, y), goes(t, y, 0, false, 3)...) // it was seen elsewhere since
		holdCounts(t, b, nil)
		holdOuts(t, b, 3, encode(t, bare(here1, api.Mac{2, 3})))
		holdCounts(t, b, counts{bridge.Nowhere: 1})
		holdPlaces(t, b, 3) // seen all the same
		holdOuts(t, b, 1, encode(t, bare(here1, here1)))
		holdCounts(t, b, counts{bridge.Nowhere: 2})
		holdOuts(t, b, 0, encode(t, x), goes(t, x, 0, false, 2)...)
	}
}

// P23.4: an address of several places isn't seen anywhere; what goes there goes everywhere.
func TestPassGroup(t *testing.T) {
	b := newNode(t, conf(5, 3))
	for _, group := range []api.Mac{all, {1}, {3, 2, 1}, bridge.PtpMac()} {
		x := bare(here1, group)
		holdOuts(t, b, 0, encode(t, x), goes(t, x, 0, false, 1, 2)...)
		if group != bridge.PtpMac() {
			y := bare(group, group)
			holdOuts(t, b, 0, encode(t, y), goes(t, y, 0, false, 1, 2)...)
		}
	}
	holdPlaces(t, b, 0)
	holdCounts(t, b, nil)
}

// P23.4: of a node with one port nothing goes out but messages.
func TestPassOnePort(t *testing.T) {
	b := newNode(t, conf(5, 1, bridge.Flow{Vid: 9, Mac: all}))
	for n := range 3 {
		holdOuts(t, b, 0, encode(t, bare(all, here1)))
		holdCounts(t, b, counts{bridge.Nowhere: 2*n + 1})
		holdOuts(t, b, 0, encode(t, tagged(bare(all, here2), 9, 7, false))) // a flow that goes out nowhere
		holdCounts(t, b, counts{bridge.Nowhere: 2*n + 2})
	}
	holdPlaces(t, b, 1)
}

// flows is a node with three flows, two of one VLAN, to one address.
func flows(t *testing.T) *bridge.Bridge {
	return newNode(t, conf(5, 5,
		bridge.Flow{Vid: 9, Mac: api.Mac{1, 1}, In: 0, Outs: 6, Max: 200},
		bridge.Flow{Vid: 9, Mac: api.Mac{1, 1}, In: 3, Outs: 1, Max: 0},
		bridge.Flow{Vid: 4094, Mac: here1, In: 4, Outs: 9, Max: 64},
	))
}

// P23.4: a flow's frame goes out at its Outs, of class Top, with its VLAN and that as priority, whatever it had, and what else it is; nobody was seen.
func TestPassFlow(t *testing.T) {
	b := flows(t)
	x := bare(api.Mac{1, 1}, here2, 1, 2, 3)
	y := bare(here1, here2)
	for prio := range 8 {
		for _, drop := range []bool{false, true} {
			for _, many := range []bool{false, true} {
				x.Many, y.Many = many, many
				holdOuts(t, b, 0, encode(t, tagged(x, 9, prio, drop)), goes(t, tagged(x, 9, 7, drop), 7, drop, 1, 2)...)
				holdOuts(t, b, 3, encode(t, tagged(x, 9, prio, drop)), goes(t, tagged(x, 9, 7, drop), 7, drop, 0)...)
				holdOuts(t, b, 4, encode(t, tagged(y, 4094, prio, drop)), goes(t, tagged(y, 4094, 7, drop), 7, drop, 0, 3)...)
			}
		}
	}
	holdPlaces(t, b, 0)
	holdCounts(t, b, nil)
	for _, seq := range []int{0, 65535} {
		z, _ := bridge.Numbered(bridge.Flow{Vid: 9, Mac: api.Mac{1, 1}}, here2, seq, []byte("data"))
		holdOuts(t, b, 3, z, bridge.Out{Port: 0, Class: 7, Bytes: z})
	}
}

// P23.4: a flow's frame that is longer than Max is Long, and the next one passes again; of Max 0 none is too long.
func TestPassLong(t *testing.T) {
	b := flows(t)
	sized := func(dst api.Mac, vid, size int) ether.Frame {
		return tagged(bare(dst, here2, make([]byte, size-24)...), vid, 7, false)
	}
	long := 0
	for _, size := range []int{64, 199, 200, 201, 200, 1600, 65, 201} {
		x := sized(api.Mac{1, 1}, 9, size)
		if size > 200 {
			long++
			holdOuts(t, b, 0, encode(t, x))
		} else {
			holdOuts(t, b, 0, encode(t, x), goes(t, x, 7, false, 1, 2)...)
		}
		holdOuts(t, b, 3, encode(t, x), goes(t, x, 7, false, 0)...)
		holdCounts(t, b, counts{bridge.Long: long})
	}
	x := sized(here1, 4094, 64)
	holdOuts(t, b, 4, encode(t, x), goes(t, x, 7, false, 0, 3)...)
	holdOuts(t, b, 4, encode(t, sized(here1, 4094, 65)))
	holdCounts(t, b, counts{bridge.Long: long + 1})
	holdPlaces(t, b, 0)
}

// P23.4: a frame of a flow's VLAN that is of no flow is Forged where the VLAN belongs, and Vlan elsewhere; a VLAN that no flow has belongs nowhere.
func TestPassForged(t *testing.T) {
	b := flows(t)
	forged, vlan := 0, 0
	for port := range 5 {
		for _, vid := range []int{9, 4094, 2, 8, 10, 4093} {
			x := tagged(bare(here2, here1), vid, 7, false)
			holdOuts(t, b, port, encode(t, x))
			in9 := vid == 9 && port != 4
			in4094 := vid == 4094 && (port == 0 || port == 3 || port == 4)
			if in9 || in4094 {
				forged++
			} else {
				vlan++
			}
			holdCounts(t, b, counts{bridge.Forged: forged, bridge.Vlan: vlan})
		}
	}
	// A flow's own frame elsewhere than where it comes in, or with another address.
	for port, want := range []int{-1, bridge.Forged, bridge.Forged, -1, bridge.Vlan} {
		if want < 0 {
			continue
		}
		holdOuts(t, b, port, encode(t, tagged(bare(api.Mac{1, 1}, here2), 9, 7, false)))
		if want == bridge.Forged {
			forged++
		} else {
			vlan++
		}
		holdCounts(t, b, counts{bridge.Forged: forged, bridge.Vlan: vlan})
	}
	holdOuts(t, b, 0, encode(t, tagged(bare(here2, api.Mac{1, 1}), 9, 7, false)))
	holdOuts(t, b, 0, encode(t, tagged(bare(api.Mac{1, 1}, here2), 4094, 7, false)))
	holdCounts(t, b, counts{bridge.Forged: forged + 2, bridge.Vlan: vlan})
	holdPlaces(t, b, 0)
	// To a flow's address without its VLAN is no flow's.
	x := bare(api.Mac{1, 1}, here2)
	holdOuts(t, b, 0, encode(t, x), goes(t, x, 0, false, 1, 2, 3, 4)...)
	holdOuts(t, b, 0, encode(t, tagged(x, 1, 7, false)), goes(t, x, 5, false, 1, 2, 3, 4)...)
	holdPlaces(t, b, 1)
}

// P23.4: of two flows of one VLAN and one address that come in at one port the first one is that of a frame.
func TestPassFirstFlow(t *testing.T) {
	b := newNode(t, conf(5, 4,
		bridge.Flow{Vid: 9, Mac: api.Mac{1, 1}, In: 0, Outs: 2, Max: 100},
		bridge.Flow{Vid: 9, Mac: api.Mac{1, 1}, In: 0, Outs: 12, Max: 1000},
	))
	x := tagged(bare(api.Mac{1, 1}, here2), 9, 7, false)
	holdOuts(t, b, 0, encode(t, x), goes(t, x, 7, false, 1)...)
	x.Data = make([]byte, 100)
	holdOuts(t, b, 0, encode(t, x))
	holdCounts(t, b, counts{bridge.Long: 1})
	// The second one's ports belong to the VLAN, too.
	holdOuts(t, b, 3, encode(t, x))
	holdCounts(t, b, counts{bridge.Long: 1, bridge.Forged: 1})
}

// P23.4: all of 64 flows are there.
func TestPassManyFlows(t *testing.T) {
	c := conf(5, 8)
	for n := range 64 {
		in := n % 8
		c.Flows = append(c.Flows, bridge.Flow{Vid: 2 + n/2, Mac: api.Mac{1, byte(n)}, In: in, Outs: 255 &^ (1 << in), Max: 64 + n})
	}
	b := newNode(t, c)
	for n, f := range c.Flows {
		data := make([]byte, 40+n)
		x := tagged(bare(f.Mac, here2, data...), f.Vid, 7, false)
		var others []int
		for port := range 8 {
			if port != f.In {
				others = append(others, port)
			}
		}
		holdOuts(t, b, f.In, encode(t, x), goes(t, x, 7, false, others...)...)
		holdOuts(t, b, (f.In+1)%8, encode(t, x))
		x.Data = make([]byte, 41+n)
		holdOuts(t, b, f.In, encode(t, x))
		holdCounts(t, b, counts{bridge.Forged: n + 1, bridge.Long: n + 1})
	}
}

// P23.5: 256 addresses are known at most; frames of others go on all the same, and those that are known may be seen elsewhere.
func TestPlaces(t *testing.T) {
	b := newNode(t, conf(5, 3))
	for n := range 256 {
		seen(t, b, n%3, 2*n, 0)
		holdPlaces(t, b, n+1)
	}
	for n := range 5 {
		seen(t, b, 1, 2000+2*n, 0)
		holdPlaces(t, b, 256)
	}
	x := bare(ether.Of(2000), here1)
	holdOuts(t, b, 1, encode(t, x), goes(t, x, 0, false, 0, 2)...) // not known
	x = bare(ether.Of(6), here1)
	holdOuts(t, b, 1, encode(t, x), goes(t, x, 0, false, 0)...)
	seen(t, b, 2, 6, 0)
	holdOuts(t, b, 1, encode(t, x), goes(t, x, 0, false, 2)...)
	holdPlaces(t, b, 256)
	// A link that comes makes room.
	b.Link(0, true)
	holdPlaces(t, b, 171)
	holdOuts(t, b, 1, encode(t, x), goes(t, x, 0, false, 2)...)
	holdPlaces(t, b, 172)
	holdCounts(t, b, nil)
}

// P23.4: an address is seen when its frame came in.
func TestSeenWhen(t *testing.T) {
	b := newNode(t, conf(5, 2))
	seen(t, b, 0, 2, 700*ns)
	seen(t, b, 0, 2, 500*ns) // whenever that was, it was seen last so
	b.Tick(500*ns + 300*tick)
	holdPlaces(t, b, 1)
	b.Tick(501*ns + 300*tick)
	holdPlaces(t, b, 0)
}

// P23.5: each frame that goes no further is counted once, each why by a frame of its own; what goes out, messages and what is a node's own aren't.
func TestCounts(t *testing.T) {
	b := flows(t)
	want := counts{}
	seen(t, b, 1, 2, 0)
	for range 3 {
		for why, x := range map[int][]byte{
			bridge.Bad:     {1, 2, 3},
			bridge.Vlan:    encode(t, tagged(bare(here1, here2), 77, 0, false)),
			bridge.Forged:  encode(t, tagged(bare(here1, here2), 9, 0, false)),
			bridge.Long:    encode(t, tagged(bare(api.Mac{1, 1}, here2, make([]byte, 300)...), 9, 0, false)),
			bridge.Nowhere: encode(t, bare(here2, here2)),
		} {
			holdOuts(t, b, 0, x)
			want[why]++
			holdCounts(t, b, want)
		}
		heard(t, b, 0, announce(0, better, 0), 0)
		hear(t, b, 0, question(0, 1, 1), 0)
		seen(t, b, 0, 8, 0)
		b.Tick(0)
		holdCounts(t, b, want)
	}
	// What is counted is told as numbers of its own.
	c := b.Counts()
	c[bridge.Bad] = 99
	holdCounts(t, b, want)
}

// P23.4: what goes out shares nothing with what came in, nor with another one that goes out.
func TestPassSharesNothing(t *testing.T) {
	b := flows(t)
	for _, x := range []ether.Frame{bare(all, here1, 1, 2, 3), tagged(bare(api.Mac{1, 1}, here1, 4, 5, 6), 9, 7, false)} {
		in := append(encode(t, x), 1, 2, 3, 4, 5, 6, 7, 8)
		whole := bytes.Clone(in)
		outs, _ := b.In(0, in[:64], 0)
		if !bytes.Equal(in, whole) {
			t.Error("In turned what was handed in, or what is behind it")
		}
		for i := range outs {
			kept := bytes.Clone(outs[i].Bytes)
			for k := range outs {
				if k != i {
					clear(outs[k].Bytes[:cap(outs[k].Bytes)])
				}
			}
			clear(in)
			if !bytes.Equal(outs[i].Bytes, kept) {
				t.Errorf("what goes out at port %d shares its bytes", outs[i].Port)
			}
			copy(in, whole)
			outs, _ = b.In(0, in[:64], 0)
		}
	}
}

// P23.4, P23.5: whatever a node is called with, at all times, no call panics.
func TestAnyTimes(t *testing.T) {
	for _, relay := range []bool{true, false} {
		c := conf(5, 2, bridge.Flow{Vid: 9, Mac: api.Mac{1, 1}, In: 0, Outs: 2, Max: 100})
		c.Relay = relay
		b := newNode(t, c)
		b.Link(0, true)
		b.Link(1, true)
		measure(t, b, 0, 300*ns, 0, 1)
		for _, here := range times {
			for _, then := range times {
				for _, x := range b.Tick(here) {
					b.Sent(x.Mark, then)
				}
				for d := range 2 {
					heard(t, b, 0, announce(d, better, 0), then)
					heard(t, b, 0, mark(d, 1), here)
					heard(t, b, 0, follow(d, 1, here), then)
					b.Roles(d, then)
				}
				hear(t, b, 1, question(0, 1, 1), here)
				b.In(1, encode(t, bare(all, here1)), then)
				b.At(then)
			}
		}
	}
}
