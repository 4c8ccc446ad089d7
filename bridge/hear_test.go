package bridge_test

import (
	"bytes"
	"testing"

	"sandglass/api"
	"sandglass/bridge"
	"sandglass/ether"
	"sandglass/ptp"
	"sandglass/stamp"
)

// station is a node that is no bridge.
func station(t *testing.T, ports int) *bridge.Bridge {
	t.Helper()
	c := conf(5, ports)
	c.Relay = false
	return newNode(t, c)
}

// holdBad holds bytes against that they are counted as Bad, once, by a bridge and by a node that is none.
func holdBad(t *testing.T, x []byte) {
	t.Helper()
	for _, b := range []*bridge.Bridge{linked(t, 2, 2), station(t, 2)} {
		for n := range 3 {
			holdOuts(t, b, n&1, x)
			holdCounts(t, b, counts{bridge.Bad: n + 1})
		}
		holdPlaces(t, b, 0)
	}
}

// P23.4: bytes that are no frame are Bad.
func TestInNoFrame(t *testing.T) {
	x := encode(t, ether.Frame{Dst: api.Mac{2}, Src: api.Mac{2, 1}, Type: 0x900, Data: make([]byte, 200)})
	holdBad(t, nil)
	holdBad(t, []byte{})
	holdBad(t, []byte{0})
	holdBad(t, make([]byte, 64))
	holdBad(t, make([]byte, 1600))
	holdBad(t, make([]byte, 1601))
	holdBad(t, make([]byte, 1<<16))
	holdBad(t, x[:63])
	holdBad(t, x[:64])
	holdBad(t, x[:len(x)-1])
	holdBad(t, append(bytes.Clone(x), 0))
	for at := range x {
		y := bytes.Clone(x)
		y[at] ^= 16
		holdBad(t, y)
	}
	holdBad(t, carry(t, question(0, 1, 1))[:63])
}

// P23.4: what comes to where messages go is Bad, if it has another Type, or no message.
func TestInNoMessage(t *testing.T) {
	right, _ := ptp.Encode(question(0, 1, 1))
	frame := func(kind int, data []byte) []byte {
		return encode(t, ether.Frame{Dst: ptpMac, Src: api.Mac{2}, Type: kind, Data: data})
	}
	for _, kind := range []int{0x600, 0x800, 0x88f6, 0x88f8, 0xffff} {
		holdBad(t, frame(kind, right))
	}
	holdBad(t, frame(0x88f7, nil))
	holdBad(t, frame(0x88f7, right[:19]))
	holdBad(t, frame(0x88f7, append(bytes.Clone(right), 0)))
	for at, x := range map[int]byte{0: 17, 1: 128} {
		wrong := bytes.Clone(right)
		wrong[at] = x
		holdBad(t, frame(0x88f7, wrong))
	}
	holdBad(t, encode(t, ether.Frame{Dst: ptpMac, Tagged: true, Vid: 9, Prio: 7, Type: 0x900}))
	holdBad(t, encode(t, ether.Frame{Dst: ptpMac, Many: true, Seq: 9, Type: 0x88f7}))
}

// P23.4: at a port that isn't there nothing is done, and nothing counted.
func TestInNoPort(t *testing.T) {
	f := bridge.Flow{Vid: 9, In: 0, Outs: 6, Max: 100}
	numbered, _ := bridge.Numbered(f, api.Mac{2}, 1, nil)
	plain := encode(t, ether.Frame{Src: api.Mac{2, 1}, Type: 0x900})
	for _, relay := range []bool{true, false} {
		c := conf(5, 3, f)
		c.Relay = relay
		b := newNode(t, c)
		for _, port := range append([]int{3, 4, 7}, strangers...) {
			for _, x := range [][]byte{nil, plain, plain[:63], numbered, carry(t, question(0, 1, 1)), carry(t, announce(0, better, 0))} {
				holdOuts(t, b, port, x)
			}
		}
		holdCounts(t, b, nil)
		holdPlaces(t, b, 0)
	}
}

// P23.4: a question is answered at its port, with a mark, of whatever domain it is, and be the link there or not; the answer says when it came.
func TestInQuestion(t *testing.T) {
	for _, b := range []*bridge.Bridge{linked(t, 3, 4), station(t, 3)} {
		for i, d := range []int{0, 1, 2, 127} {
			for port := range 3 {
				here := times[4*i%len(times)]
				outs := hear(t, b, port, question(d, 65535-i, 9*i), here)
				holdTold(t, outs, told{port, true, firstHalf(65535-i, port, 9*i, here)})
			}
		}
		holdCounts(t, b, nil)
		holdPlaces(t, b, 0)
	}
}

// P23.4: a message is one whatever tags its frame has, and wherever it came from.
func TestInMessageTagged(t *testing.T) {
	data, _ := ptp.Encode(question(0, 3, 4))
	for _, f := range []ether.Frame{
		{}, {Tagged: true}, {Tagged: true, Vid: 9, Prio: 3}, {Tagged: true, Vid: 4094, Drop: true}, {Many: true, Seq: 77}, {Tagged: true, Vid: 1, Many: true},
		{Src: ptpMac}, {Src: ether.Of(5)}, {Src: api.Mac{255, 255, 255, 255, 255, 255}},
	} {
		f.Dst, f.Type, f.Data = ptpMac, 0x88f7, data
		b := newNode(t, conf(5, 2, bridge.Flow{Vid: 9, Mac: ptpMac, In: 1, Outs: 1, Max: 1}))
		outs, own := b.In(1, encode(t, f), 8)
		holdTold(t, outs, told{1, true, firstHalf(3, 1, 4, 8)})
		if len(own) != 0 {
			t.Errorf("a message is the node's own: %+v", own)
		}
		holdCounts(t, b, nil)
		holdPlaces(t, b, 0)
	}
}

// P23.4: halves of answers go to the Peer of their port, of whatever domain they are.
func TestInAnswer(t *testing.T) {
	b := linked(t, 2, 0)
	for n := range stamp.Stamp(2) {
		here := n * tick
		outs := b.Tick(here)
		for port := range 2 {
			ask := at(outs, port)
			b.Sent(ask[len(ask)-1].Mark, here)
			half := ptp.Msg{Kind: ptp.Resp, Domain: 100, Seq: int(n) + 1, Src: 9, Port: 2, Time: here, To: 5, ToPort: port}
			heard(t, b, 1-port, half, here+400*ns)
			heard(t, b, port, half, here+200*ns)
			half.Kind, half.Domain = ptp.RespMore, 2
			heard(t, b, 1-port, half, here+300*ns)
			if port == 0 {
				heard(t, b, port, half, here+300*ns)
			}
		}
	}
	holdAble(t, b, 0, 100*ns, true)
	holdAble(t, b, 1, 0, false)
	holdCounts(t, b, nil)
}

// P23.4: what is told of a clock counts only over a link that is measured.
func TestInAheadOfAble(t *testing.T) {
	b := linked(t, 2, 0)
	b.Tick(0)
	heard(t, b, 0, announce(0, better, 0), 0)
	heard(t, b, 0, announce(1, better, 0), 0)
	holdRoles(t, b, 0, 0, own, master, master)
	measure(t, b, 0, 300*ns, 1) // another link is
	heard(t, b, 0, announce(0, better, 0), 2*tick)
	heard(t, b, 0, announce(1, better, 0), 2*tick)
	holdRoles(t, b, 0, 2*tick, own, master, master)
	holdRoles(t, b, 1, 2*tick, own, master, master)
	answer(t, b, b.Tick(2*tick), 0, 2*tick, 2*tick, 300*ns) // one answer isn't enough
	heard(t, b, 0, announce(0, better, 0), 2*tick)
	holdRoles(t, b, 0, 2*tick, own, master, master)
	answer(t, b, b.Tick(3*tick), 0, 3*tick, 3*tick, 300*ns)
	heard(t, b, 0, announce(0, better, 0), 3*tick)
	holdRoles(t, b, 0, 3*tick, better, slave, master)
	holdRoles(t, b, 1, 3*tick, own, master, master)
	heard(t, b, 0, announce(1, better, 4), 3*tick)
	holdRoles(t, b, 1, 3*tick, better, slave, master)
	holdCounts(t, b, nil)
}

// P23.4: a Sync or a Follow over a link that isn't measured any more is none.
func TestInBehindAble(t *testing.T) {
	b := slaved(t, 0)
	b.Tick(2 * tick)
	heard(t, b, 0, mark(0, 50), 2*tick)
	for n := range stamp.Stamp(3) { // three questions fail
		heard(t, b, 0, announce(0, better, 0), 2*tick+n*tick)
		b.Tick(3*tick + n*tick)
	}
	holdAble(t, b, 0, 0, false)
	holdRoles(t, b, 0, 5*tick, better, slave, master, off)
	heard(t, b, 0, follow(0, 50, 70*tick), 5*tick)
	holdAt(t, b, 5*tick, 5*tick)
	heard(t, b, 0, mark(0, 51), 5*tick)
	for n := range stamp.Stamp(2) {
		here := 5*tick + n*tick/10
		answer(t, b, b.Tick(here), 0, here, here, 300*ns)
	}
	heard(t, b, 0, follow(0, 51, 70*tick), 5*tick)
	holdAt(t, b, 5*tick, 5*tick)
	heard(t, b, 0, follow(0, 50, 70*tick), 5*tick) // the Sync of 50 came while it was measured, and is open still
	holdAt(t, b, 5*tick, 73*tick+300*ns)
}

// P23.4: of domains other than 0 and 1 nothing is heard, and nothing counted.
func TestInOtherDomains(t *testing.T) {
	for _, d := range []int{2, 3, 126, 127} {
		b := slaved(t, 0)
		b.Tick(2 * tick)
		heard(t, b, 0, announce(d, prior(0, 3), 0), 2*tick)
		heard(t, b, 0, mark(d, 50), 2*tick)
		heard(t, b, 0, follow(d, 50, 70*tick), 2*tick)
		holdRoles(t, b, 0, 2*tick, better, slave, master, off)
		holdRoles(t, b, 1, 2*tick, own, master, master, off)
		holdRoles(t, b, d, 2*tick, ptp.Prior{})
		holdAt(t, b, 2*tick, 2*tick)
		holdCounts(t, b, nil)
	}
}

// P23.4: an Announce goes to the Tree of its port and its domain, at its time; of a port without a link that takes none.
func TestInAnnounce(t *testing.T) {
	b := linked(t, 3, 0)
	measure(t, b, 0, 300*ns, 0, 1, 2)
	heard(t, b, 1, announce(0, better, 3), 2*tick)
	heard(t, b, 2, announce(0, better, 3), 2*tick)
	heard(t, b, 0, announce(1, better, 5), 2*tick)
	holdRoles(t, b, 0, 2*tick, better, master, slave, passive)
	holdRoles(t, b, 1, 2*tick, better, slave, master, master)
	heard(t, b, 2, announce(1, prior(0, 3), 3), 2*tick)
	holdRoles(t, b, 0, 2*tick, better, master, slave, passive)
	holdRoles(t, b, 1, 2*tick, prior(0, 3), master, master, slave)
	heard(t, b, 0, announce(0, prior(0, 3), 3, 5), 2*tick) // it came round
	holdRoles(t, b, 0, 2*tick, better, master, slave, passive)
	b.Link(1, false)
	heard(t, b, 1, announce(0, prior(0, 3), 0), 2*tick)
	holdRoles(t, b, 0, 2*tick, better, master, off, slave)
	// What is to come isn't heard yet.
	heard(t, b, 0, announce(0, prior(0, 3), 0), 3*tick)
	holdRoles(t, b, 0, 3*tick-1, better, master, off, slave)
	holdRoles(t, b, 0, 3*tick, prior(0, 3), slave, off, master)
}

// P23.4: only at the port at which the best clock was heard Sync and Follow go to the Pair.
func TestInSync(t *testing.T) {
	for d := range 2 {
		b := linked(t, 2, 0)
		measure(t, b, 0, 300*ns, 0)
		// Behind it, so that the other link takes another time.
		for n := range stamp.Stamp(2) {
			here := (2 + n) * tick
			answer(t, b, b.Tick(here), 1, here, here, 500*ns)
		}
		for k := range 2 {
			heard(t, b, 0, announce(k, better, 0), 4*tick)
			heard(t, b, 1, announce(k, better, 4), 4*tick)
		}
		b.Tick(4 * tick)
		holdAt(t, b, 4*tick, 4*tick)
		known := func(want stamp.Stamp) {
			t.Helper()
			// By then no domain is fresh that wasn't told since.
			holdAt(t, b, 8*tick, want)
		}
		known(8 * tick)
		heard(t, b, 1, mark(d, 50), 5*tick)
		heard(t, b, 1, follow(d, 50, 70*tick), 5*tick)
		known(8 * tick)
		heard(t, b, 0, follow(d, 50, 70*tick), 5*tick) // its Sync was none
		known(8 * tick)
		heard(t, b, 0, mark(d, 51), 5*tick)
		heard(t, b, 1, mark(d, 52), 6*tick) // isn't in the place of that
		heard(t, b, 1, follow(d, 51, 70*tick), 5*tick)
		known(8 * tick)
		heard(t, b, 0, follow(d, 51, 70*tick), 7*tick)
		known(73*tick + 300*ns)
		// The other domain is told elsewhere.
		heard(t, b, 0, announce(1-d, better, 6), 5*tick)
		heard(t, b, 0, mark(1-d, 53), 7*tick)
		heard(t, b, 0, follow(1-d, 53, 90*tick), 7*tick)
		known(73*tick + 300*ns)
		heard(t, b, 1, mark(1-d, 54), 7*tick)
		heard(t, b, 1, follow(1-d, 54, 90*tick), 7*tick)
		want := 73*tick + 300*ns // domain 0 holds, as both are fresh
		if d == 1 {
			want = 91*tick + 500*ns
		}
		known(want)
		holdCounts(t, b, nil)
	}
}

// P23.4: once what was heard of the best clock is too old, its Sync isn't heard either.
func TestInSyncTooOld(t *testing.T) {
	for late, want := range map[stamp.Stamp]stamp.Stamp{0: 70*tick + 300*ns, ns - 1: 70*tick + 300*ns, ns: 5*tick + tick/2} {
		b := slaved(t, 0)
		b.Tick(2 * tick)
		end := 2*tick + 7*tick/2
		heard(t, b, 0, mark(0, 50), end+late)
		heard(t, b, 0, follow(0, 50, 70*tick), end)
		if got, _ := b.At(end + late); got != want && got != want+late {
			t.Errorf("%d late: %d, not %d", late, got, want)
		}
	}
}

// P23.4: a Follow's time goes by how long the link takes, and how fast the clock at its other end runs.
func TestInFollowRate(t *testing.T) {
	b := linked(t, 1, 0)
	for n := range stamp.Stamp(3) {
		here := n * tick
		// The other clock runs faster by one part in 500, so its nanosecond is shorter.
		faster := here + here/500
		outs := b.Tick(here)
		ask := outs[len(outs)-1]
		b.Sent(ask.Mark, here)
		half := ptp.Msg{Kind: ptp.Resp, Seq: read(t, ask).m.Seq, Src: 9, Time: faster, To: 5}
		heard(t, b, 0, half, here+20000*ns)
		half.Kind = ptp.RespMore
		heard(t, b, 0, half, here+20000*ns)
	}
	holdAble(t, b, 0, 10000*ns, true)
	heard(t, b, 0, announce(0, better, 0), 3*tick)
	b.Tick(3 * tick)
	m := follow(0, 50, 70*tick)
	m.Rate, m.Corr = one-one/1000, 40*ns
	heard(t, b, 0, mark(0, 50), 3*tick)
	heard(t, b, 0, m, 3*tick)
	r := 1.002 * 0.999
	for _, far := range []stamp.Stamp{0, tick, 3 * tick} {
		want := 70*tick + 40*ns + stamp.Stamp(r*float64(10000*ns)) + stamp.Stamp(r*float64(far))
		if got, ok := b.At(3*tick + far); !ok || got < want-4 || got > want+4 {
			t.Errorf("At behind %d is %d, %v, not %d", far, got, ok, want)
		}
	}
}
