package host_test

import (
	"bytes"
	"testing"

	"sandglass/api"
	"sandglass/bridge"
	"sandglass/ether"
	"sandglass/ptp"
	"sandglass/stamp"
)

// P24.3: of a flow's frame what is taken is told: the end's place, the number, the data; whoever sent it, and whatever else it is.
func TestInTaken(t *testing.T) {
	h := newHost(t, conf(4), 1000, takes(9, mac2, 0, 1), talks(9, mac1, 0, 1), takes(9, mac1, 3, 1), takes(10, mac1, 2, 0))
	seq := 0
	for _, n := range []int{0, 1, 29, 30, 31, 100, 1500, 1570} {
		for _, src := range []api.Mac{{}, ether.Of(5), mac1, ptpMac, other} {
			for _, kind := range []int{0x600, 0x800, 0x88f7, 0xffff} {
				f := flowing(9, mac1, seq, bytes.Repeat([]byte{byte(seq) | 1}, n)...)
				f.Src, f.Type, f.Prio, f.Drop = src, kind, seq%8, seq%3 == 0
				port := []int{3, 1}[seq%2]
				holdIn(t, h, port, encode(t, f), 0, taken(2, seq, f.Data...))
				seq++
			}
		}
	}
	holdIn(t, h, 0, encode(t, flowing(9, mac2, 3, 7)), 0, taken(0, 3, 7))
	holdIn(t, h, 2, encode(t, flowing(10, mac1, 3, 8)), 0, taken(3, 3, 8))
	holdCounts(t, h, 0, 0)
	holdBad(t, h, 0)
}

// P24.3: at each of its two ports, ahead of the other way's and behind it, each number is taken once.
func TestInBothWays(t *testing.T) {
	for a := range 8 {
		for b := range 8 {
			if a == b {
				continue
			}
			h := newHost(t, conf(8), maxTime, takes(9, mac1, a, b))
			for seq := range 40 {
				x := encode(t, flowing(9, mac1, seq, byte(seq)))
				first, second := a, b
				if seq%3 == 0 {
					first, second = b, a
				}
				holdIn(t, h, first, x, 0, taken(0, seq, byte(seq)))
				holdIn(t, h, second, x, 0)
				holdCounts(t, h, seq+1, 0)
			}
		}
	}
}

// P24.3: the way that is behind by some frames brings those that the other one has lost, and no others.
func TestInBehind(t *testing.T) {
	for _, far := range []int{1, 2, 15, 31} {
		h := newHost(t, conf(2), maxTime, takes(9, mac1, 1, 0))
		again := 0
		for n := range 300 {
			if n%5 != 0 {
				holdIn(t, h, 1, encode(t, flowing(9, mac1, n, byte(n))), 0, taken(0, n, byte(n)))
			}
			if seq := n - far; seq >= 0 && n%5 != 0 {
				x := encode(t, flowing(9, mac1, seq, byte(seq)))
				if seq%5 == 0 {
					holdIn(t, h, 0, x, 0, taken(0, seq, byte(seq)))
				} else {
					holdIn(t, h, 0, x, 0)
					again++
				}
			}
		}
		holdCounts(t, h, again, 0)
	}
}

// P24.3: one number twice at one port is taken once; so is the other way's.
func TestInTwice(t *testing.T) {
	h := newHost(t, conf(2), maxTime, takes(9, mac1, 0, 1))
	for n, seq := range []int{65535, 0, 5, 65534} {
		x := encode(t, flowing(9, mac1, seq))
		holdIn(t, h, 1, x, 0, taken(0, seq))
		holdIn(t, h, 1, x, 0)
		holdIn(t, h, 0, x, 0)
		holdIn(t, h, 0, x, 0)
		holdCounts(t, h, 3*n+3, 0)
	}
}

// P24.3: 32 numbers are known to have come, of each way and of both: a number that is as much ahead or behind isn't taken.
func TestInWindow(t *testing.T) {
	for _, last := range []int{0, 31, 32, 1000, 65535} {
		for far := -70; far <= 70; far++ {
			for way := range 2 { // by the way's own numbers, or by both ways'
				h := newHost(t, conf(2), maxTime, takes(9, mac1, 0, 1))
				holdIn(t, h, 0, encode(t, flowing(9, mac1, last)), 0, taken(0, last))
				seq := (last + far + 65536) % 65536
				x := encode(t, flowing(9, mac1, seq))
				if far == 0 || far <= -32 || far >= 32 {
					holdIn(t, h, way, x, 0)
					holdCounts(t, h, 1, 0)
				} else {
					holdIn(t, h, way, x, 0, taken(0, seq))
					holdCounts(t, h, 0, 0)
				}
			}
		}
	}
}

// P24.3: the window of a way is its own: what is far off by that isn't taken, though it isn't by both ways'.
func TestInWindowOfWay(t *testing.T) {
	for far, again := range map[int]int{31: 0, 32: 1} {
		h := newHost(t, conf(2), maxTime, takes(9, mac1, 0, 1))
		holdIn(t, h, 1, encode(t, flowing(9, mac1, 0)), 0, taken(0, 0))
		holdIn(t, h, 0, encode(t, flowing(9, mac1, 16)), 0, taken(0, 16))
		x := encode(t, flowing(9, mac1, far))
		if again == 0 {
			holdIn(t, h, 1, x, 0, taken(0, far))
		} else {
			holdIn(t, h, 1, x, 0)
		}
		holdCounts(t, h, again, 0)
	}
}

// P24.3: a number counts only where it was taken: what came at another port, or without a number, hasn't come.
func TestInStray(t *testing.T) {
	h := newHost(t, conf(5), maxTime, takes(9, mac1, 1, 3))
	stray := 0
	for seq := range 5 {
		f := flowing(9, mac1, seq, 7)
		for _, port := range []int{0, 2, 4} {
			holdIn(t, h, port, encode(t, f), 0)
			stray++
			holdCounts(t, h, seq, stray)
		}
		f.Many, f.Seq = false, 0
		for port := range 5 { // no more than once, though it is both
			holdIn(t, h, port, encode(t, f), 0)
			stray++
			holdCounts(t, h, seq, stray)
		}
		x := encode(t, flowing(9, mac1, seq, 7))
		holdIn(t, h, 3, x, 0, taken(0, seq, 7))
		holdIn(t, h, 1, x, 0)
		holdCounts(t, h, seq+1, stray)
	}
	holdBad(t, h, 0)
}

// P24.3: a frame of another VLAN, to another address, without a tag, or of an end that sends is of no end: it is told as it is, and counted nowhere.
func TestInNoFlow(t *testing.T) {
	h := newHost(t, conf(3), maxTime, takes(9, mac1, 0, 1), talks(9, mac2, 0, 1), takes(10, mac2, 0, 1))
	for n, f := range []ether.Frame{
		flowing(10, mac1, 0, 7), flowing(9, mac2, 1, 7), flowing(8, mac1, 2, 7), flowing(9, other, 3), flowing(4094, other, 65535), flowing(0, mac1, 4), flowing(1, mac1, 4),
		flowing(9, api.Mac{1, 0, 0, 0, 1, 3}, 5), flowing(9, api.Mac{3, 0, 0, 0, 1, 1}, 5), flowing(9, ether.Of(5), 5),
		{Dst: mac1, Src: other, Type: 0x800, Data: []byte("data")}, {Dst: mac1, Many: true, Seq: 7, Type: 0x600}, {Dst: ether.Of(5), Type: 0xffff, Data: make([]byte, 1580)},
		{Dst: other, Tagged: true, Vid: 1, Prio: 3, Drop: true, Type: 0x88f7}, {Tagged: true, Vid: 9, Type: 0x900, Data: []byte{1}}, {Dst: api.Mac{255, 255, 255, 255, 255, 255}, Type: 0x900},
		{Dst: api.Mac{1, 0x80, 0xc2, 0, 0, 0x0f}, Type: 0x88f7},
	} {
		for port := range 3 { // each time
			holdIn(t, h, port, encode(t, f), times[n%len(times)], asIs(f))
		}
	}
	holdCounts(t, h, 0, 0)
	holdBad(t, h, 0)
}

// P24.3: of two ends of one flow the first that takes is asked, whether it takes or not; each place is the end's among all.
func TestInFirst(t *testing.T) {
	h := newHost(t, conf(6), maxTime, talks(9, mac1, 4, 5), takes(9, mac1, 0, 1), takes(9, mac1, 2, 3), takes(9, mac1, 0, 1), takes(9, mac2, 2, 3))
	x := encode(t, flowing(9, mac1, 0))
	for n, port := range []int{2, 3, 4, 5} { // the second one's, and those of the end that sends
		holdIn(t, h, port, x, 0)
		holdCounts(t, h, 0, n+1)
	}
	holdIn(t, h, 0, x, 0, taken(1, 0))
	holdIn(t, h, 1, x, 0)
	holdIn(t, h, 0, x, 0)
	holdCounts(t, h, 2, 4)
	holdIn(t, h, 2, encode(t, flowing(9, mac2, 0)), 0, taken(4, 0))
	holdIn(t, h, 0, encode(t, flowing(9, mac2, 1)), 0)
	holdCounts(t, h, 2, 5)
}

// P24.3: each end has numbers of its own.
func TestInEachEnd(t *testing.T) {
	h := newHost(t, conf(3), maxTime, takes(9, mac1, 0, 1), takes(9, mac2, 0, 1), takes(10, mac1, 1, 2))
	for n, seq := range []int{5, 6, 4, 65535, 30} {
		for i, f := range []ether.Frame{flowing(9, mac1, seq), flowing(9, mac2, seq), flowing(10, mac1, seq)} {
			holdIn(t, h, 1, encode(t, f), 0, taken(i, seq))
			holdIn(t, h, 1, encode(t, f), 0)
			holdCounts(t, h, 3*n+i+1, 0)
		}
	}
}

// P24.3: messages are the node's business, though they are to a flow's address, in its VLAN; what they ask for goes out.
func TestInMessage(t *testing.T) {
	h := newHost(t, conf(3), maxTime, takes(9, ptpMac, 0, 1), takes(9, mac1, 0, 1))
	same, _ := bridge.New(conf(3))
	data, _ := ptp.Encode(ptp.Msg{Kind: ptp.Req, Seq: 7, Src: 9, Port: 3})
	for n, f := range []ether.Frame{
		{Dst: ptpMac, Src: ether.Of(9), Type: 0x88f7, Data: data},
		{Dst: ptpMac, Tagged: true, Vid: 9, Prio: 7, Many: true, Seq: 3, Type: 0x88f7, Data: data},
	} {
		x, here := encode(t, f), 8*ns
		want, _ := same.In(n, x, here)
		outs, got := h.In(n, x, here)
		if len(outs) != 1 || text(outs) != text(want) || len(got) != 0 {
			t.Errorf("to a question goes out %+v, not %+v; taken is %+v", outs, want, got)
		}
		if more := h.Node().Sent(outs[0].Mark, 2*here); len(more) != 1 || text(more) != text(same.Sent(want[0].Mark, 2*here)) {
			t.Errorf("behind the answer goes out %+v", more)
		}
	}
	holdBad(t, h, 0)
	holdIn(t, h, 0, encode(t, flowing(9, ptpMac, 3)), 0) // it is none
	holdBad(t, h, 1)
	holdIn(t, h, 1, encode(t, ether.Frame{Dst: ptpMac, Type: 0x88f7}), 0)
	holdBad(t, h, 2)
	holdCounts(t, h, 0, 0)
}

// P24.3: at a port that isn't there nothing comes, and nothing is counted.
func TestInNoPort(t *testing.T) {
	for _, ports := range []int{2, 8} {
		h := newHost(t, conf(ports), maxTime, takes(9, mac1, 0, 1))
		for _, port := range append([]int{ports, ports + 1}, strangers...) {
			if port >= 0 && port < ports {
				continue
			}
			for _, x := range [][]byte{nil, encode(t, flowing(9, mac1, 0)), encode(t, flowing(9, mac2, 0)), carry(t, ptp.Msg{Kind: ptp.Req})} {
				holdIn(t, h, port, x, 0)
			}
		}
		holdCounts(t, h, 0, 0)
		holdBad(t, h, 0)
		holdIn(t, h, 0, encode(t, flowing(9, mac1, 0)), 0, taken(0, 0))
	}
}

// P24.3: bytes that are no frame are Bad, and nothing else.
func TestInNoFrame(t *testing.T) {
	h := newHost(t, conf(2), maxTime, takes(9, mac1, 0, 1))
	x := encode(t, flowing(9, mac1, 0, make([]byte, 100)...))
	bad := 0
	for _, n := range []int{0, 1, 63, 64, len(x) - 1} {
		holdIn(t, h, n%2, x[:n], 0)
		bad++
	}
	for i := range x {
		y := bytes.Clone(x)
		y[i] ^= 4
		holdIn(t, h, i%2, y, 0)
		bad++
	}
	holdIn(t, h, 0, append(bytes.Clone(x), 0), 0)
	holdIn(t, h, 0, make([]byte, 1601), 0)
	holdBad(t, h, bad+2)
	holdCounts(t, h, 0, 0)
	holdIn(t, h, 0, x, 0, taken(0, 0, make([]byte, 100)...))
}

// P24.3: behind just Reset of silence all numbers are new, of one way: what is far ahead by its own numbers, but not by both ways', is taken.
func TestInSilentWay(t *testing.T) {
	for _, reset := range []int{1, 2, 1000, 1 << 30} {
		for _, late := range []stamp.Stamp{-2 * ns, -ns, -1, 0, 1, ns - 1, ns, 9 * ns} {
			from := 5000 * ns
			until := from + stamp.Stamp(reset)*ns + late
			if until <= from {
				continue
			}
			h := newHost(t, conf(2), reset, takes(9, mac1, 0, 1))
			holdIn(t, h, 1, encode(t, flowing(9, mac1, 0)), from, taken(0, 0))
			// The other way goes on, so that both together aren't silent.
			for seq := 20; seq <= 80; seq += 20 {
				holdIn(t, h, 0, encode(t, flowing(9, mac1, seq)), until-1, taken(0, seq))
			}
			x := encode(t, flowing(9, mac1, 81))
			if late >= 0 {
				holdIn(t, h, 1, x, until, taken(0, 81))
				holdCounts(t, h, 0, 0)
			} else {
				holdIn(t, h, 1, x, until)
				holdCounts(t, h, 1, 0)
			}
		}
	}
}

// P24.3: behind just Reset in which nothing is taken all numbers are new, of both ways together, though one isn't silent.
func TestInSilentAll(t *testing.T) {
	for _, reset := range []int{2, 3, 1000, 1 << 30} {
		for _, late := range []stamp.Stamp{-ns, -1, 0, 1, ns - 1, ns - 2} {
			from := -5000 * ns
			until := from + stamp.Stamp(reset)*ns + late
			h := newHost(t, conf(2), reset, takes(9, mac1, 0, 1))
			for seq := range 21 {
				holdIn(t, h, 0, encode(t, flowing(9, mac1, seq)), from, taken(0, seq))
			}
			holdIn(t, h, 1, encode(t, flowing(9, mac1, 20)), from+ns) // known: Again
			x := encode(t, flowing(9, mac1, 5))
			if late >= 0 {
				holdIn(t, h, 1, x, until, taken(0, 5))
				holdCounts(t, h, 1, 0)
			} else {
				holdIn(t, h, 1, x, until)
				holdCounts(t, h, 2, 0)
			}
		}
	}
}

// P24.3: the time is here's whole nanoseconds, rounded down, below 0 too; what came again doesn't end a silence.
func TestInSilent(t *testing.T) {
	for _, c := range []struct {
		reset       int
		from, until stamp.Stamp
		isNew       bool
	}{
		{1, 0, 0, false}, {1, 0, ns - 1, false}, {1, 0, ns, true}, {1, ns - 1, ns, true}, {1, ns, 2*ns - 1, false},
		{1, -1, 0, true}, {1, -1, -1, false}, {1, -ns, -1, false}, {1, -ns - 1, -ns, true}, {1, -ns - 1, -ns - 1, false}, {2, -ns - 1, -1, false}, {2, -ns - 1, 0, true},
		{2, 0, ns, false}, {2, 0, 2 * ns, true}, {2, ns - 1, 2*ns - 1, false}, {2, ns - 1, 2 * ns, true},
		{1000, 7 * ns, 1006*ns + ns - 1, false}, {1000, 7 * ns, 1007 * ns, true}, {1000, 7*ns + ns - 1, 1007 * ns, true}, {1000, 7 * ns, 1008 * ns, true},
		{1000, 7 * ns, 6 * ns, false}, {1000, 7 * ns, -993 * ns, false}, {1000, 7 * ns, -9999 * ns, false}, // times that go back
		{maxTime, 0, maxTime*ns - 1, false}, {maxTime, 0, maxTime * ns, true}, {maxTime, -1, maxTime*ns - 1, true}, {maxTime, -1, maxTime*ns - ns - 1, false},
		{maxTime, least, most, true}, {1, least, most, true}, {1, most, least, false}, {1, most, most, false}, {1, least, least, false},
	} {
		h := newHost(t, conf(2), c.reset, takes(9, mac1, 0, 1))
		x := encode(t, flowing(9, mac1, 5))
		holdIn(t, h, 0, x, c.from, taken(0, 5))
		holdIn(t, h, 0, x, c.from)
		if !c.isNew {
			holdIn(t, h, 0, x, c.until)
			holdCounts(t, h, 2, 0)
			continue
		}
		holdIn(t, h, 0, x, c.until, taken(0, 5))
		holdCounts(t, h, 1, 0)
		if t.Failed() {
			t.Fatalf("%+v", c)
		}
	}
}

// P24.3: what is taken shares nothing with what was handed in, nor with what is taken later.
func TestInShares(t *testing.T) {
	h := newHost(t, conf(2), maxTime, takes(9, mac1, 0, 1))
	for seq := range 3 {
		for _, f := range []ether.Frame{flowing(9, mac1, seq, 1, 2, 3), flowing(9, mac2, seq, 1, 2, 3)} {
			x := encode(t, f)
			_, got := h.In(0, x, 0)
			clear(x)
			if len(got) != 1 || string(got[0].Data)+string(got[0].Frame.Data) != "\x01\x02\x03" {
				t.Fatalf("taken is %+v", got)
			}
			clear(got[0].Data)
			clear(got[0].Frame.Data)
		}
	}
}
