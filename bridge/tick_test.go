package bridge_test

import (
	"testing"

	"sandglass/api"
	"sandglass/bridge"
	"sandglass/ether"
	"sandglass/ptp"
	"sandglass/stamp"
)

// says is an Announce as a node of Id 5 tells it.
func says(d, seq, port int, best ptp.Prior, steps int, path ...int) told {
	return told{port, false, ptp.Msg{Kind: ptp.Announce, Domain: d, Seq: seq, Src: 5, Port: port, Best: best, Steps: steps, Path: append(path, 5)}}
}

// marks is a Sync as a node of Id 5 tells it.
func marks(d, seq, port int) told {
	return told{port, true, ptp.Msg{Kind: ptp.Sync, Domain: d, Seq: seq, Src: 5, Port: port}}
}

// asks is a question as a node of Id 5 tells it.
func asks(seq, port int) told {
	return told{port, true, ptp.Msg{Kind: ptp.Req, Seq: seq, Src: 5, Port: port}}
}

// own is the clock of a node of Id 5.
var own = prior(100, 5)

// better is a clock that is better than that.
var better = prior(1, 9)

// P23.3: first domain 0, port by port, then domain 1, then the questions; of ports without a link nothing.
func TestTickOrder(t *testing.T) {
	b := linked(t, 4, 4)
	var want []told
	for d := range 2 {
		for _, port := range []int{0, 1, 3} {
			want = append(want, says(d, 1, port, own, 0), marks(d, 1, port))
		}
	}
	want = append(want, asks(1, 0), asks(1, 1), asks(1, 3))
	holdTold(t, b.Tick(0), want...)
}

// P23.3: each domain has a Prior of its own.
func TestTickPriors(t *testing.T) {
	c := conf(5, 1)
	c.Prior = [2]ptp.Prior{{One: 0, Class: 255, Two: 1, Id: 5}, {One: 255, Class: 0, Two: 255, Id: 5}}
	b := newNode(t, c)
	b.Link(0, true)
	holdTold(t, b.Tick(0), says(0, 1, 0, c.Prior[0], 0), marks(0, 1, 0), says(1, 1, 0, c.Prior[1], 0), marks(1, 1, 0), asks(1, 0))
	holdRoles(t, b, 0, 0, c.Prior[0], master)
	holdRoles(t, b, 1, 0, c.Prior[1], master)
}

// P23.3: the Seq of ticks is 1 at first, and behind 65535 0; so is that of questions.
func TestTickSeq(t *testing.T) {
	b := linked(t, 1, 0)
	for n := 1; n <= 65536+3; n++ {
		outs := b.Tick(stamp.Stamp(n))
		switch n {
		case 1, 2, 3, 1000, 65534, 65535, 65536, 65537, 65538, 65539:
			seq := n % 65536
			holdTold(t, outs, says(0, seq, 0, own, 0), marks(0, seq, 0), says(1, seq, 0, own, 0), marks(1, seq, 0), asks(seq, 0))
		}
	}
}

// P23.3: a tick has its number, and peers ask, where there is no link, too, but their questions don't go out.
func TestTickWithoutLinks(t *testing.T) {
	b := newNode(t, conf(5, 2))
	for range 4 {
		holdTold(t, b.Tick(0))
	}
	b.Link(1, true)
	holdTold(t, b.Tick(0), says(0, 5, 1, own, 0), marks(0, 5, 1), says(1, 5, 1, own, 0), marks(1, 5, 1), asks(5, 1))
	b.Link(1, false)
	holdTold(t, b.Tick(0))
	b.Link(0, true)
	holdTold(t, b.Tick(0), says(0, 7, 0, own, 0), marks(0, 7, 0), says(1, 7, 0, own, 0), marks(1, 7, 0), asks(7, 0))
}

// slaved is a node with three ports, of which 0 and 1 have links, and at port 0 a better clock in one domain, heard at two ticks.
func slaved(t *testing.T, d int) *bridge.Bridge {
	t.Helper()
	b := linked(t, 3, 4)
	measure(t, b, 0, 300*ns, 0, 1)
	heard(t, b, 0, announce(d, better, 0), 2*tick)
	return b
}

// P23.3: where another clock is the best, its port is Slave, and nothing is told there; elsewhere it is told on, and a Sync as long as the domain is fresh.
func TestTickSlave(t *testing.T) {
	for d := range 2 {
		b := slaved(t, d)
		holdRoles(t, b, d, 2*tick, better, slave, master, off)
		holdRoles(t, b, 1-d, 2*tick, own, master, master, off)
		outs := b.Tick(2 * tick)
		for port, role := range []int{slave, master, off} {
			var want []told
			switch {
			case role == off:
			case d == 0 && port == 0:
				want = []told{says(1, 3, 0, own, 0), marks(1, 3, 0), asks(3, 0)}
			case d == 1 && port == 0:
				want = []told{says(0, 3, 0, own, 0), marks(0, 3, 0), asks(3, 0)}
			case d == 0:
				// The own clock was the domain's best just until now, so that is fresh.
				want = []told{says(0, 3, 1, better, 1, 9), marks(0, 3, 1), says(1, 3, 1, own, 0), marks(1, 3, 1), asks(3, 1)}
			case d == 1:
				want = []told{says(0, 3, 1, own, 0), marks(0, 3, 1), says(1, 3, 1, better, 1, 9), marks(1, 3, 1), asks(3, 1)}
			}
			holdTold(t, at(outs, port), want...)
		}
	}
}

// at is what goes out at a port.
func at(outs []bridge.Out, port int) []bridge.Out {
	var list []bridge.Out
	for _, x := range outs {
		if x.Port == port {
			list = append(list, x)
		}
	}
	return list
}

// hasSync tells whether a Sync of a domain goes out at a port.
func hasSync(t *testing.T, outs []bridge.Out, d, port int) bool {
	t.Helper()
	for _, x := range at(outs, port) {
		if m := read(t, x).m; m.Kind == ptp.Sync && m.Domain == d {
			return true
		}
	}
	return false
}

// P23.2, P23.3: a domain is fresh for 3 times and a half Every behind being told, no part of a nanosecond longer, be it told by a Follow or by the own clock that was the best; so long a Sync goes out where the port is Master.
func TestTickFresh(t *testing.T) {
	for d := range 2 {
		for _, c := range []struct {
			far  stamp.Stamp
			want bool
		}{{0, true}, {tick, true}, {7*tick/2 - 1, true}, {7 * tick / 2, true}, {7*tick/2 + 1, false}, {4 * tick, false}} {
			b := slaved(t, d)
			b.Tick(2 * tick) // the own clock isn't the best any more
			heard(t, b, 0, announce(d, better, 0), 2*tick+c.far)
			outs := b.Tick(2*tick + c.far)
			if hasSync(t, outs, d, 0) || hasSync(t, outs, d, 1) != c.want {
				t.Errorf("domain %d, %d behind the own clock's: %+v", d, c.far, outs)
			}
			b = slaved(t, d)
			b.Tick(2 * tick)
			heard(t, b, 0, mark(d, 50), 3*tick+7)
			heard(t, b, 0, follow(d, 50, 70*tick), 3*tick+5000)
			heard(t, b, 0, announce(d, better, 0), 3*tick+7+c.far)
			outs = b.Tick(3*tick + 7 + c.far)
			if hasSync(t, outs, d, 0) || hasSync(t, outs, d, 1) != c.want {
				t.Errorf("domain %d, %d behind the Sync: %+v", d, c.far, outs)
			}
		}
	}
}

// P23.2: an Announce holds for 3 times and a half Every, in whole nanoseconds; a half one is too much of an odd Every.
func TestAnnounceHolds(t *testing.T) {
	for _, c := range []struct{ every, holds int }{{1000, 3500}, {1001, 3503}, {every, 3500000}, {1<<30 - 1, 7<<29 - 4}, {1 << 30, 7 << 29}} {
		x := conf(5, 1)
		x.Every = c.every
		b := newNode(t, x)
		b.Link(0, true)
		measure(t, b, 0, 300*ns, 0)
		from := 40 * tick
		heard(t, b, 0, announce(0, better, 0), from)
		holdRoles(t, b, 0, from, better, slave)
		holdRoles(t, b, 1, from, own, master)
		end := from + stamp.Stamp(c.holds)*ns
		holdRoles(t, b, 0, end, better, slave)
		holdRoles(t, b, 0, end+ns-1, better, slave)
		holdRoles(t, b, 0, end+ns, own, master)
		holdRoles(t, b, 0, from-1, own, master)
		b.Tick(end)
		if outs := b.Tick(end + ns); !hasSync(t, outs, 0, 0) {
			t.Errorf("Every %d: too old, but still the best: %+v", c.every, outs)
		}
	}
}

// P23.2: the Pair's 3 times and a half Every has its half of an odd Every.
func TestFreshOfOddEvery(t *testing.T) {
	for far, want := range map[stamp.Stamp]bool{7007 * ns / 2: true, 7007*ns/2 + 1: false} {
		x := conf(5, 2)
		x.Every = 1001
		b := newNode(t, x)
		b.Link(0, true)
		b.Link(1, true)
		measure(t, b, 0, 300*ns, 0)
		heard(t, b, 0, announce(0, better, 0), 2*tick)
		b.Tick(2 * tick)
		heard(t, b, 0, announce(0, better, 0), 2*tick+far)
		if outs := b.Tick(2*tick + far); hasSync(t, outs, 0, 1) != want {
			t.Errorf("%d behind: %+v", far, outs)
		}
	}
}

// P23.3: a tick tells the Pair whether the own clock is the best; until then what Announces say changes nothing there.
func TestTickRoot(t *testing.T) {
	b := linked(t, 1, 0)
	holdNoAt(t, b, 0)
	measure(t, b, 0, 300*ns, 0)
	holdAt(t, b, 5*tick, 5*tick)
	heard(t, b, 0, announce(0, better, 0), 2*tick)
	heard(t, b, 0, mark(0, 50), 2*tick) // the own clock is still the domain's
	b.Tick(2 * tick)
	heard(t, b, 0, follow(0, 50, 70*tick), 2*tick)
	holdAt(t, b, 3*tick, 3*tick)
	heard(t, b, 0, mark(0, 51), 3*tick)
	heard(t, b, 0, follow(0, 51, 70*tick), 3*tick)
	holdAt(t, b, 3*tick, 70*tick+300*ns)
	// The Announce is too old, so from the next tick on the own clock is the best, and goes on from there.
	heard(t, b, 0, mark(0, 52), 6*tick)
	b.Tick(6 * tick)
	heard(t, b, 0, follow(0, 52, 900*tick), 6*tick)
	holdAt(t, b, 7*tick, 74*tick+300*ns)
}

// seen lets an address be seen at a port.
func seen(t *testing.T, b *bridge.Bridge, port, address int, here stamp.Stamp) {
	t.Helper()
	x := encode(t, ether.Frame{Dst: api.Mac{1, 1, 1}, Src: ether.Of(address), Type: 0x900})
	if outs, _ := b.In(port, x, here); len(outs) == 0 {
		t.Errorf("a frame from %d goes nowhere", address)
	}
}

// P23.3: an address that was seen just 300 Every ago stays, one that was seen any longer ago is forgotten, by a tick.
func TestTickAges(t *testing.T) {
	for _, far := range []int{1000, 1001, every, 1 << 30} {
		for _, from := range []stamp.Stamp{0, 1, 5*ns + 7, -1, -9 * tick, 1 << 61, -1 << 62} {
			c := conf(5, 2)
			c.Every = far
			b := newNode(t, c)
			seen(t, b, 0, 2, from)
			seen(t, b, 1, 4, from+ns)
			old := from + 300*stamp.Stamp(far)*ns
			b.Tick(from - ns)
			b.Tick(old)
			holdPlaces(t, b, 2)
			// Only a tick forgets.
			holdAt(t, b, old+5*tick, old+5*tick)
			holdPlaces(t, b, 2)
			b.Tick(old + 1)
			holdPlaces(t, b, 1)
			b.Tick(old + ns)
			holdPlaces(t, b, 1)
			seen(t, b, 1, 4, from+2*ns) // once more
			b.Tick(old + 2*ns)
			holdPlaces(t, b, 1)
			b.Tick(old + 2*ns + 1)
			holdPlaces(t, b, 0)
		}
	}
}

// P23.3: at the ends of times nothing is older than they allow.
func TestTickAgesAtEnds(t *testing.T) {
	b := newNode(t, conf(5, 2))
	seen(t, b, 0, 2, least)
	seen(t, b, 0, 4, most)
	b.Tick(least)
	b.Tick(least + 300*tick)
	holdPlaces(t, b, 2)
	b.Tick(least + 300*tick + 1)
	holdPlaces(t, b, 1)
	b.Tick(least)
	b.Tick(0)
	b.Tick(most)
	holdPlaces(t, b, 1)
}

// P23.2: a link that comes, or goes: what was heard and measured at its port is forgotten, and the addresses that were seen there; one that is said to be as it is changes nothing.
func TestLink(t *testing.T) {
	b := slaved(t, 0)
	heard(t, b, 1, announce(1, better, 3), 2*tick)
	seen(t, b, 0, 2, 0)
	seen(t, b, 0, 4, 0)
	seen(t, b, 1, 6, 0)
	seen(t, b, 2, 8, 0)
	same := func() {
		t.Helper()
		holdRoles(t, b, 0, 2*tick, better, slave, master, off)
		holdRoles(t, b, 1, 2*tick, better, master, slave, off)
		holdAble(t, b, 0, 300*ns, true)
		holdAble(t, b, 1, 300*ns, true)
		holdPlaces(t, b, 4)
	}
	same()
	b.Link(0, true)
	b.Link(1, true)
	b.Link(2, false)
	for _, port := range append([]int{3}, strangers...) {
		b.Link(port, true)
		b.Link(port, false)
	}
	same()
	b.Link(0, false)
	holdRoles(t, b, 0, 2*tick, own, off, master, off)
	holdRoles(t, b, 1, 2*tick, better, off, slave, off)
	holdAble(t, b, 0, 0, false)
	holdAble(t, b, 1, 300*ns, true)
	holdPlaces(t, b, 2)
	seen(t, b, 0, 2, 0)
	holdPlaces(t, b, 3)
	b.Link(0, true)
	holdPlaces(t, b, 2)
	b.Link(2, true)
	holdPlaces(t, b, 1)
	holdRoles(t, b, 0, 2*tick, own, master, master, master)
	holdRoles(t, b, 1, 2*tick, better, master, slave, master)
	holdAble(t, b, 0, 0, false)
	b.Link(1, false)
	holdPlaces(t, b, 0)
	holdRoles(t, b, 1, 2*tick, own, master, off, master)
	holdAble(t, b, 1, 0, false)
	// The Peer's questions go on by their numbers.
	outs := b.Tick(2 * tick)
	holdTold(t, at(outs, 2), says(0, 3, 2, own, 0), marks(0, 3, 2), says(1, 3, 2, own, 0), marks(1, 3, 2), asks(3, 2))
}

// P23.2: what was asked ahead of a link's going isn't open behind its coming.
func TestLinkClosesQuestions(t *testing.T) {
	b := linked(t, 1, 0)
	measure(t, b, 0, 300*ns, 0)
	for range 2 {
		outs := b.Tick(2 * tick)
		b.Link(0, false)
		b.Link(0, true)
		answer(t, b, outs, 0, 2*tick, 2*tick, 300*ns)
		holdAble(t, b, 0, 0, false)
	}
	measure(t, b, 4*tick, 200*ns, 0)
}

// P23.2: the Peer: an answer 2^27 too early is taken, no earlier one; a link that takes 2^40 is, no longer one.
func TestPeerBounds(t *testing.T) {
	for _, c := range []struct {
		both, delay stamp.Stamp
		able        bool
	}{
		{2 << 40, 1 << 40, true}, {2<<40 + 1, 1 << 40, true}, {2<<40 + 2, 0, false},
		{-1 << 27, 0, true}, {-1<<27 - 1, 0, false}, {2, 1, true}, {1, 0, true}, {0, 0, true},
	} {
		b := linked(t, 1, 0)
		stay := stamp.Stamp(9 << 27) // at the other end, so that an early answer comes behind the question
		for n := range stamp.Stamp(2) {
			here := n << 44
			x := at(b.Tick(here), 0)
			ask := x[len(x)-1]
			b.Sent(ask.Mark, here)
			half := ptp.Msg{Kind: ptp.Resp, Seq: read(t, ask).m.Seq, Src: 9, Time: here, To: 5}
			heard(t, b, 0, half, here+stay+c.both)
			half.Kind, half.Time = ptp.RespMore, here+stay
			heard(t, b, 0, half, 0)
		}
		holdAble(t, b, 0, c.delay, c.able)
	}
}

// P23.2: the Peer: two questions in a row that fail change nothing, three do; its rate is reckoned over 8 answers.
func TestPeerLost(t *testing.T) {
	for fails, able := range []bool{true, true, true, false, false} {
		b := linked(t, 2, 0)
		measure(t, b, 0, 300*ns, 0)
		for n := range fails + 1 { // the first one closes none
			b.Tick(stamp.Stamp(2+n) * tick)
		}
		if delay, ok := b.Able(0); ok != able || ok != (delay == 300*ns) {
			t.Errorf("behind %d that failed: %d, %v", fails, delay, ok)
		}
	}
}

// P23.2: the Peer reckons the other clock's rate from 8 answers ahead: a jump of that clock is in it for so long, and no longer.
func TestPeerWindow(t *testing.T) {
	for answers, want := range map[stamp.Stamp]stamp.Stamp{3: 0, 4: tick / 1000, 11: 3 * tick / 8000, 12: 0} {
		b := linked(t, 1, 0)
		for n := range answers {
			here := n * tick
			there := here
			if n >= 3 {
				there += tick / 1000
			}
			answer(t, b, b.Tick(here), 0, here, there, 300*ns)
		}
		now := answers * tick
		heard(t, b, 0, announce(0, better, 0), now)
		b.Tick(now)
		heard(t, b, 0, mark(0, 1), now)
		heard(t, b, 0, follow(0, 1, 0), now)
		from, _ := b.At(now)
		to, _ := b.At(now + 3*tick)
		// The jump goes by how many answers lie between: three ticks' part of it.
		if far := to - from - 3*tick; far < want-10 || far > want+10 {
			t.Errorf("behind %d answers three ticks are %d more, not %d", answers, far, want)
		}
	}
}
