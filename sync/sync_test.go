package sync_test

import (
	"math"
	"testing"

	"sandglass/api"
	"sandglass/ptp"
	"sandglass/rate"
	"sandglass/stamp"
	"sandglass/sync"
)

const (
	most     = math.MaxInt
	least    = math.MinInt
	ns       = 65536
	one      = 1 << 41
	mostId   = 1<<48 - 1
	mostPort = 65535
)

// domains are those that a message may be of, and others.
var domains = []int{0, 1, 2, 64, 127, 128, 255, 256, -1, -128, 1 << 32, most, least}

// ends are times at which something may not fit.
var ends = []stamp.Stamp{0, 1, -1, ns, -ns, 1 << 61, -1 << 61, 1 << 62, -1 << 62, most - 1, most, least, least + 1}

// same tells whether two messages are one; no path and an empty one are.
func same(m, n ptp.Msg) bool {
	return m.Kind == n.Kind && m.Domain == n.Domain && m.Seq == n.Seq && m.Src == n.Src && m.Port == n.Port &&
		m.Corr == n.Corr && m.Time == n.Time && m.To == n.To && m.ToPort == n.ToPort && m.Rate == n.Rate &&
		m.Best == n.Best && m.Steps == n.Steps && len(m.Path) == 0 && len(n.Path) == 0
}

// mark is a Sync.
func mark(domain, seq, src int) ptp.Msg {
	return ptp.Msg{Kind: ptp.Sync, Domain: domain, Seq: seq, Src: src, Port: 3}
}

// follow is what follows it.
func follow(domain, seq, src int, at, corr stamp.Stamp, r rate.Rate) ptp.Msg {
	return ptp.Msg{Kind: ptp.Follow, Domain: domain, Seq: seq, Src: src, Port: 3, Time: at, Corr: corr, Rate: r}
}

// newClock is one that must be there.
func newClock(t *testing.T, domain int) *sync.Clock {
	t.Helper()
	c := sync.New(domain)
	if c == nil {
		t.Fatalf("New(%d) is nil", domain)
	}
	return c
}

// holdSync holds a Sync against its error.
func holdSync(t *testing.T, c *sync.Clock, m ptp.Msg, at stamp.Stamp, want api.Errno) {
	t.Helper()
	if err := c.Sync(m, at); err != want {
		t.Errorf("Sync(%v, %d) is %d, not %d", m, int(at), err, want)
	}
}

// holdFollow holds a Follow against its error.
func holdFollow(t *testing.T, c *sync.Clock, m ptp.Msg, delay stamp.Stamp, ratio rate.Rate, want api.Errno) {
	t.Helper()
	if err := c.Follow(m, delay, ratio); err != want {
		t.Errorf("Follow(%v, %d, %d) is %d, not %d", m, int(delay), int(ratio), err, want)
	}
}

// told is a clock of domain 1 that was told at 1000 ns that it was 7050 ns, at a rate.
func told(t *testing.T, r rate.Rate) *sync.Clock {
	t.Helper()
	c := newClock(t, 1)
	holdSync(t, c, mark(1, 4, 9), 1000*ns, api.OK)
	holdFollow(t, c, follow(1, 4, 9, 7050*ns, 0, r), 0, one, api.OK)
	return c
}

// holdAt holds At against what it tells.
func holdAt(t *testing.T, c *sync.Clock, now, want stamp.Stamp) {
	t.Helper()
	for range 2 {
		if got, ok := c.At(now); got != want || !ok {
			t.Errorf("At(%d) is %d, %v, not %d", int(now), int(got), ok, int(want))
		}
	}
}

// holdNoAt holds At against that it tells nothing.
func holdNoAt(t *testing.T, c *sync.Clock, now stamp.Stamp) {
	t.Helper()
	if got, ok := c.At(now); got != 0 || ok {
		t.Errorf("At(%d) is %d, %v", int(now), int(got), ok)
	}
}

// holdRate holds Rate against what it must be.
func holdRate(t *testing.T, c *sync.Clock, want rate.Rate) {
	t.Helper()
	if got := c.Rate(); got != want {
		t.Errorf("Rate is %d, not %d", int(got), int(want))
	}
}

// holdTell holds Tell against its message.
func holdTell(t *testing.T, c *sync.Clock, seq, src, port int, at stamp.Stamp, want ptp.Msg) {
	t.Helper()
	for range 2 {
		if got, ok := c.Tell(seq, src, port, at); !ok || !same(got, want) || got.Check() != api.OK {
			t.Errorf("Tell(%d, %d, %d, %d) is %v, %v, not %v", seq, src, port, int(at), got, ok, want)
		}
	}
}

// holdNoTell holds Tell against that it tells nothing.
func holdNoTell(t *testing.T, c *sync.Clock, seq, src, port int, at stamp.Stamp) {
	t.Helper()
	if got, ok := c.Tell(seq, src, port, at); ok || !same(got, ptp.Msg{}) {
		t.Errorf("Tell(%d, %d, %d, %d) is %v, %v", seq, src, port, int(at), got, ok)
	}
}

// holdFresh holds Fresh against what it must be.
func holdFresh(t *testing.T, c *sync.Clock, now, far stamp.Stamp, want bool) {
	t.Helper()
	if got := c.Fresh(now, far); got != want {
		t.Errorf("Fresh(%d, %d) is %v", int(now), int(far), got)
	}
}

// holdUnknown holds a clock against that it knows nothing.
func holdUnknown(t *testing.T, c *sync.Clock) {
	t.Helper()
	for _, now := range ends {
		holdNoAt(t, c, now)
		holdNoTell(t, c, 1, 2, 3, now)
		for _, far := range ends {
			holdFresh(t, c, now, far, false)
		}
	}
	holdRate(t, c, one)
}

// P18.1: a clock of each domain, right or not, knows nothing, until the own one is the domain's.
func TestNew(t *testing.T) {
	for _, domain := range domains {
		c := newClock(t, domain)
		holdUnknown(t, c)
		c.Own(false, 5)
		holdUnknown(t, c)
		c.Own(true, 5)
		for _, now := range ends {
			holdAt(t, c, now, now)
		}
		holdRate(t, c, one)
	}
}

// P18.1, P18.3: the example.
func TestExample(t *testing.T) {
	c := newClock(t, 0)
	holdSync(t, c, mark(0, 1, 2), 1000*ns, api.OK)
	holdFollow(t, c, follow(0, 1, 2, 7000*ns, 0, one), 50*ns, one, api.OK)
	holdAt(t, c, 1500*ns, 7550*ns)
}

// P18.1: at a time ahead of here and behind it, by rates at their ends, of two as near to the even one.
func TestAt(t *testing.T) {
	for _, x := range []struct {
		r    rate.Rate
		gone stamp.Stamp
		want stamp.Stamp
	}{
		{one, 0, 0}, {one, 1, 1}, {one, -1, -1}, {one, 500 * ns, 500 * ns}, {one, -500 * ns, -500 * ns},
		{one, 1<<61 + 1, 1<<61 + 1}, {one, -1<<61 + 1, -1<<61 + 1},
		{one + 1<<34, 128, 129}, {one + 1<<34, -128, -129}, {one + 1<<34, 1280000, 1290000},
		{one - 1<<34, 128, 127}, {one - 1<<34, -128, -127},
		// A half: 64.5, 193.5; less than a half, more.
		{one + 1<<34, 64, 64}, {one + 1<<34, 192, 194}, {one + 1<<34, -64, -64}, {one + 1<<34, -192, -194},
		{one + 1<<34, 63, 63}, {one + 1<<34, 65, 66}, {one - 1<<34, 64, 64}, {one - 1<<34, 192, 190},
		{one + 1, one, one + 1}, {one + 1, one / 2, one / 2}, {one + 1, one/2 + 1, one/2 + 2}, {one - 1, -one, -one + 1},
	} {
		c := told(t, x.r)
		holdRate(t, c, x.r)
		holdAt(t, c, 1000*ns+x.gone, 7050*ns+x.want)
	}
}

// P18.1: each of the steps, just so that it fits, and one beyond.
func TestAtFits(t *testing.T) {
	// Now less here.
	c := newClock(t, 0)
	c.Hold(10, 0)
	holdAt(t, c, most, most-10)
	holdAt(t, c, least+10, least)
	holdNoAt(t, c, least+9)
	holdNoAt(t, c, least)
	c.Hold(-10, 0)
	holdAt(t, c, most-10, most)
	holdNoAt(t, c, most-9)
	holdNoAt(t, c, most)
	holdAt(t, c, least, least+10)
	c.Hold(-10, -20)
	holdNoAt(t, c, most-9)
	c.Hold(10, 20)
	holdNoAt(t, c, least+9)
	// There, and how far it went.
	c.Hold(0, 10)
	holdAt(t, c, most-10, most)
	holdNoAt(t, c, most-9)
	holdAt(t, c, least, least+10)
	c.Hold(0, -10)
	holdAt(t, c, least+10, least)
	holdNoAt(t, c, least+9)
	holdAt(t, c, most, most-10)
	// That by the rate.
	c = newClock(t, 0)
	holdSync(t, c, mark(0, 1, 2), 0, api.OK)
	holdFollow(t, c, follow(0, 1, 2, 0, 0, one+1<<34), 0, one, api.OK)
	x := stamp.Stamp(most / 129 * 128)
	holdAt(t, c, x, most/129*129)
	holdAt(t, c, -x, -most/129*129)
	for _, now := range []stamp.Stamp{x + 128, most, -x - 256, least} {
		holdNoAt(t, c, now)
		holdNoTell(t, c, 1, 2, 3, now)
	}
	// What doesn't fit by the rate isn't told, though with there it would.
	c.Hold(0, least)
	holdNoAt(t, c, most)
	c.Hold(0, most)
	holdNoAt(t, c, least)
}

// P18.1: the own clock is the domain's: its rate is One; At is now as long as nothing is known.
func TestAtOwn(t *testing.T) {
	c := newClock(t, 0)
	c.Own(true, 12345)
	for _, now := range ends {
		holdAt(t, c, now, now)
	}
	c.Hold(1000, 5000)
	holdAt(t, c, 1700, 5700)
	holdRate(t, c, one)
	// Of one that knows a rate it goes on by One.
	c = told(t, one+1<<34)
	c.Own(true, 1000*ns+128)
	holdRate(t, c, one)
	holdAt(t, c, 1000*ns+128, 7050*ns+129)
	holdAt(t, c, 1000*ns+256, 7050*ns+257)
	holdAt(t, c, 1000*ns, 7050*ns+1)
	holdNoAt(t, c, least)
	holdNoAt(t, c, most)
}

// P18.1: a nil clock.
func TestNil(t *testing.T) {
	var c *sync.Clock
	for range 2 {
		holdUnknown(t, c)
		holdSync(t, c, mark(0, 0, 0), 0, api.ErrOrder)
		holdFollow(t, c, follow(0, 0, 0, 0, 0, one), 0, one, api.ErrOrder)
		holdSync(t, c, ptp.Msg{Kind: -1}, 0, api.ErrOrder)
		holdFollow(t, c, ptp.Msg{Kind: -1}, 0, 0, api.ErrOrder)
		c.Own(true, 5)
		c.Own(false, 5)
		c.Own(true, 5)
		c.Hold(5, 6)
	}
	holdUnknown(t, c)
}

// A clock that New didn't make: no call panics.
func TestNotMade(t *testing.T) {
	var c sync.Clock
	for _, own := range []bool{true, false} {
		c.Own(own, 5)
		c.Hold(5, 6)
		c.At(most)
		c.Rate()
		c.Fresh(5, 6)
		c.Tell(1, 2, 3, 4)
		c.Sync(mark(0, 0, 0), 0)
		c.Follow(follow(0, 0, 0, 0, 0, one), 0, one)
	}
}

// P18.2: Own as it is already changes nothing.
func TestOwnTwice(t *testing.T) {
	c := told(t, one+1<<34)
	for _, now := range ends {
		c.Own(false, now)
		holdAt(t, c, 1000*ns+128, 7050*ns+129)
		holdFresh(t, c, 1000*ns, 0, true)
		holdFresh(t, c, 1000*ns+1, 0, false)
	}
	// Nor of a Sync that is open.
	holdSync(t, c, mark(1, 5, 9), 2000*ns, api.OK)
	c.Own(false, 2000*ns)
	holdFollow(t, c, follow(1, 5, 9, 500*ns, 0, one+1<<34), 0, one, api.OK)
	holdAt(t, c, 2000*ns+128, 500*ns+129)
	c.Own(true, 2000*ns+128)
	for _, now := range ends {
		c.Own(true, now)
		holdAt(t, c, 2000*ns+256, 500*ns+257)
	}
	c.Own(false, 2000*ns+256)
	holdTell(t, c, 1, 2, 3, 2000*ns+300, follow(1, 1, 2, 500*ns+257, 44, one))
}

// P18.2: to the own clock and from it: the time goes on without a jump.
func TestOwnToAndFro(t *testing.T) {
	c := told(t, one+1<<34)
	c.Own(true, 1000*ns+1280)
	holdRate(t, c, one)
	holdAt(t, c, 1000*ns+1280, 7050*ns+1290)
	holdAt(t, c, 1000*ns+1281, 7050*ns+1291)
	c.Own(false, 1000*ns+2000)
	// Now its rate is that which held ahead of it: One.
	holdRate(t, c, one)
	holdAt(t, c, 1000*ns+2000, 7050*ns+2010)
	holdAt(t, c, 1000*ns+130000, 7050*ns+130010)
	// It was told then.
	holdFresh(t, c, 1000*ns+2005, 5, true)
	holdFresh(t, c, 1000*ns+2006, 5, false)
	holdTell(t, c, 1, 2, 3, 1000*ns+2100, follow(1, 1, 2, 7050*ns+2010, 100, one))
	c.Own(true, 1000*ns+3000)
	c.Own(false, 1000*ns+4000)
	holdTell(t, c, 1, 2, 3, 1000*ns+4001, follow(1, 1, 2, 7050*ns+4010, 1, one))
	// It can be told again.
	holdSync(t, c, mark(1, 5, 9), 0, api.OK)
	holdFollow(t, c, follow(1, 5, 9, 500, 0, one-1<<34), 0, one, api.OK)
	holdAt(t, c, 128, 627)
}

// P18.2: to the own clock while nothing is known: nothing is known then; from it: what it told is known.
func TestOwnUnknown(t *testing.T) {
	c := newClock(t, 1)
	c.Own(true, 700)
	holdAt(t, c, 500, 500)
	holdTell(t, c, 1, 2, 3, 500, follow(1, 1, 2, 500, 0, one))
	c.Own(false, 900)
	holdRate(t, c, one)
	holdAt(t, c, 500, 500)
	holdAt(t, c, 900, 900)
	holdAt(t, c, most, most)
	holdFresh(t, c, 905, 5, true)
	holdFresh(t, c, 906, 5, false)
	holdTell(t, c, 1, 2, 3, 905, follow(1, 1, 2, 900, 5, one))
	// Of the same, where the times are far from nought.
	c = newClock(t, 1)
	c.Own(true, most)
	c.Own(false, least)
	holdAt(t, c, least, least)
	holdAt(t, c, -1, -1)
	holdNoAt(t, c, 0)
	holdFresh(t, c, least, 0, true)
}

// P18.2: where At tells nothing, Own changes nothing but whose the clock is: what was known stays, and the rate.
func TestOwnUntold(t *testing.T) {
	c := told(t, one+1<<34)
	c.Own(true, least)
	holdRate(t, c, one)
	holdAt(t, c, 1000*ns+128, 7050*ns+128)
	c.Own(false, most)
	holdRate(t, c, one+1<<34)
	holdAt(t, c, 1000*ns+128, 7050*ns+129)
	holdFresh(t, c, 1000*ns+5, 5, true)
	holdFresh(t, c, 1000*ns+6, 5, false)
	// To it, where At tells: the rate that is kept is the one that held; from it where it doesn't: that holds again.
	c.Own(true, 1000*ns+1280)
	c.Own(false, least)
	holdRate(t, c, one+1<<34)
	holdAt(t, c, 1000*ns+1280+128, 7050*ns+1290+129)
	holdFresh(t, c, 1000*ns+1285, 5, true)
	holdFresh(t, c, 1000*ns+1286, 5, false)
	// A Sync that is open is forgotten all the same.
	holdSync(t, c, mark(1, 5, 9), 2000*ns, api.OK)
	c.Own(true, least)
	c.Own(false, least)
	holdFollow(t, c, follow(1, 5, 9, 0, 0, one), 0, one, api.ErrOrder)
	holdAt(t, c, 1000*ns+1280+128, 7050*ns+1290+129)
}

// P18.2: a Sync whose Follow hasn't come is forgotten when the own clock becomes the domain's.
func TestOwnOpen(t *testing.T) {
	for _, known := range []bool{false, true} {
		c := newClock(t, 1)
		if known {
			c = told(t, one)
		}
		holdSync(t, c, mark(1, 5, 9), 2000*ns, api.OK)
		c.Own(true, 2000*ns)
		holdFollow(t, c, follow(1, 5, 9, 0, 0, one), 0, one, api.ErrOrder)
		c.Own(false, 2000*ns)
		holdFollow(t, c, follow(1, 5, 9, 0, 0, one), 0, one, api.ErrOrder)
		holdSync(t, c, mark(1, 5, 9), 2000*ns, api.OK)
		holdFollow(t, c, follow(1, 5, 9, 0, 0, one), 0, one, api.OK)
	}
}

// P18.2: Hold: where nothing is known, where something is, and where the own clock is the domain's.
func TestHold(t *testing.T) {
	c := newClock(t, 1)
	c.Hold(4000, 100)
	holdRate(t, c, one)
	holdAt(t, c, 4005, 105)
	holdAt(t, c, 3995, 95)
	holdFresh(t, c, 4005, 5, true)
	holdFresh(t, c, 4006, 5, false)
	holdTell(t, c, 1, 2, 3, 4005, follow(1, 1, 2, 100, 5, one))
	c.Hold(2000, -300)
	holdAt(t, c, 2000, -300)
	holdFresh(t, c, 2005, 5, true)
	holdFresh(t, c, 2006, 5, false)

	c = told(t, one+1<<34)
	c.Hold(4000, 100)
	holdRate(t, c, one+1<<34)
	holdAt(t, c, 4128, 229)
	holdTell(t, c, 1, 2, 3, 4128, follow(1, 1, 2, 100, 129, one+1<<34))

	// The rate that is kept stays, too, while another one holds.
	c.Own(true, 4128)
	c.Hold(5000, 700)
	holdRate(t, c, one)
	holdAt(t, c, 5128, 828)
	holdTell(t, c, 1, 2, 3, 5128, follow(1, 1, 2, 828, 0, one))
	c.Hold(-1000, 800)
	c.Own(false, most)
	holdRate(t, c, one+1<<34)
	holdAt(t, c, -1000+128, 800+129)

	// Of the own clock, while nothing is known.
	c = newClock(t, 1)
	c.Own(true, 0)
	c.Hold(5000, 700)
	holdAt(t, c, 5001, 701)
	c.Own(false, 6000)
	holdTell(t, c, 1, 2, 3, 6001, follow(1, 1, 2, 1700, 1, one))
	for _, now := range ends {
		for _, x := range ends {
			c.Hold(now, x)
			holdAt(t, c, now, x)
		}
	}
}

// P18.2: Hold lets a Sync stay open.
func TestHoldOpen(t *testing.T) {
	c := newClock(t, 1)
	holdSync(t, c, mark(1, 5, 9), 2000, api.OK)
	c.Hold(4000, 100)
	holdAt(t, c, 4000, 100)
	holdFollow(t, c, follow(1, 5, 9, 300, 0, one), 0, one, api.OK)
	holdAt(t, c, 4000, 2300)
}

// P18.4: Tell where something is known: what is known is Time, how far it went is Corr.
func TestTell(t *testing.T) {
	c := told(t, one+1<<34)
	for _, x := range []struct{ seq, src, port int }{{0, 0, 0}, {8, 5, 2}, {65535, mostId, mostPort}, {1, mostId, 0}} {
		holdTell(t, c, x.seq, x.src, x.port, 1000*ns+128, ptp.Msg{Kind: ptp.Follow, Domain: 1, Seq: x.seq, Src: x.src, Port: x.port, Time: 7050 * ns, Corr: 129, Rate: one + 1<<34})
	}
	holdTell(t, c, 1, 2, 3, 1000*ns, follow(1, 1, 2, 7050*ns, 0, one+1<<34))
	holdTell(t, c, 1, 2, 3, 1000*ns-128, follow(1, 1, 2, 7050*ns, -129, one+1<<34))
	// Where the steps just fit, and where they don't.
	c = newClock(t, 127)
	c.Hold(0, least)
	holdTell(t, c, 1, 2, 3, most, follow(127, 1, 2, least, most, one))
	holdNoTell(t, c, 1, 2, 3, -1)
	c.Hold(0, 1)
	holdTell(t, c, 1, 2, 3, most-1, follow(127, 1, 2, 1, most-1, one))
	holdNoTell(t, c, 1, 2, 3, most)
	c.Hold(-1, 0)
	holdNoTell(t, c, 1, 2, 3, most)
}

// P18.4: Tell where the own clock is the domain's: what At tells is Time; nothing else is told.
func TestTellOwn(t *testing.T) {
	c := newClock(t, 0)
	c.Own(true, 0)
	for _, at := range ends {
		holdTell(t, c, 1, 2, 3, at, follow(0, 1, 2, at, 0, one))
	}
	c = told(t, one+1<<34)
	c.Own(true, 1000*ns+128)
	holdTell(t, c, 65535, mostId, 3, 1000*ns+256, follow(1, 65535, mostId, 7050*ns+257, 0, one))
	holdNoTell(t, c, 1, 2, 3, most)
	holdNoTell(t, c, 1, 2, 3, least)
}

// P18.4: Tell where the message would not be right, of the own clock and of another one.
func TestTellWrong(t *testing.T) {
	for _, own := range []bool{false, true} {
		c := told(t, one)
		c.Own(own, 1000*ns)
		for _, x := range []struct{ seq, src, port int }{
			{-1, 2, 3}, {65536, 2, 3}, {most, 2, 3}, {least, 2, 3},
			{1, -1, 3}, {1, mostId + 1, 3}, {1, most, 3}, {1, least, 3},
			{1, 2, -1}, {1, 2, 65536}, {1, 2, most}, {1, 2, least}, {-1, -1, -1},
		} {
			holdNoTell(t, c, x.seq, x.src, x.port, 1000*ns)
		}
		for _, domain := range domains {
			c := newClock(t, domain)
			c.Own(own, 0)
			c.Hold(0, 0)
			if domain < 0 || domain > 127 {
				holdNoTell(t, c, 1, 2, 3, 0)
			} else {
				holdTell(t, c, 1, 2, 3, 0, follow(domain, 1, 2, 0, 0, one))
			}
		}
	}
}

// P18.4: Fresh: just at most, and one beyond; a time ahead of that at which it was told; where the difference doesn't fit.
func TestFresh(t *testing.T) {
	c := told(t, one+1<<34)
	for _, far := range []stamp.Stamp{0, 1, 2, 1000 * ns, 1 << 60} {
		holdFresh(t, c, 1000*ns+far, far, true)
		holdFresh(t, c, 1000*ns+far-1, far, true)
		holdFresh(t, c, 1000*ns+far+1, far, false)
		holdFresh(t, c, 1000*ns-far, far, true)
	}
	holdFresh(t, c, 1000*ns, -1, false)
	holdFresh(t, c, 1000*ns-1, -1, true)
	holdFresh(t, c, 1000*ns-5, -5, true)
	holdFresh(t, c, 1000*ns-5, -6, false)
	holdFresh(t, c, most, most, true)
	holdFresh(t, c, 0, least, false)
	holdFresh(t, c, least+1000*ns, least, true)
	holdFresh(t, c, least+1000*ns-1, most, false)
	holdFresh(t, c, least, most, false)
	c.Hold(-10, 0)
	holdFresh(t, c, most-10, most, true)
	holdFresh(t, c, most-10, most-1, false)
	holdFresh(t, c, most-9, most, false)
	holdFresh(t, c, most, most, false)
}

// P18.4: where the own clock is the domain's it is always fresh; else not as long as nothing is known, nor by a Sync alone.
func TestFreshOwn(t *testing.T) {
	for _, known := range []bool{false, true} {
		c := newClock(t, 1)
		holdSync(t, c, mark(1, 4, 9), 1000*ns, api.OK)
		holdFresh(t, c, 1000*ns, most, false)
		if known {
			c.Hold(1000*ns, 0)
		}
		c.Own(true, 1000*ns)
		for _, now := range ends {
			for _, far := range ends {
				holdFresh(t, c, now, far, true)
			}
		}
		c.Own(false, 1000*ns)
		holdFresh(t, c, 1000*ns+5, 5, true)
		holdFresh(t, c, 1000*ns+6, 5, false)
	}
}
