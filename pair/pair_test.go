package pair_test

import (
	"math"
	"slices"
	"testing"

	"sandglass/api"
	"sandglass/pair"
	"sandglass/ptp"
	"sandglass/rate"
	"sandglass/stamp"
)

const (
	most  = math.MaxInt
	least = math.MinInt
	one   = rate.One
	ns    = stamp.Unit
	other = 40 * ns // what the second domain's time is ahead of the first one's, where both were told
)

// ends are times of all kinds.
var ends = []stamp.Stamp{0, 1, -1, 1000 * ns, -1000 * ns, 1 << 62, -1 << 62, most - 1, most, least, least + 1}

// strangers are domains that no pair has.
var strangers = []int{-1, -2, 2, 3, 127, 128, 255, 256, 1 << 32, most, least, least + 1}

// newPair is one that must be there.
func newPair(t *testing.T, far stamp.Stamp) *pair.Pair {
	t.Helper()
	p, err := pair.New(far)
	if err != api.OK || p == nil {
		t.Fatalf("New(%d) is %v, %d", int(far), p, err)
	}
	return p
}

// mark is a Sync of a domain.
func mark(d int) ptp.Msg { return ptp.Msg{Kind: ptp.Sync, Domain: d, Seq: 4, Src: 9, Port: 3} }

// follow is what tells of it.
func follow(d int, time stamp.Stamp, r rate.Rate) ptp.Msg {
	return ptp.Msg{Kind: ptp.Follow, Domain: d, Seq: 4, Src: 9, Port: 3, Time: time, Rate: r}
}

// tellAt lets a domain be told that at a time it is another one, and at which rate it goes on.
func tellAt(t *testing.T, p *pair.Pair, d int, at, time stamp.Stamp, r rate.Rate) {
	t.Helper()
	holdSync(t, p, mark(d), at, api.OK)
	holdFollow(t, p, follow(d, time, r), 0, one, api.OK)
}

func holdSync(t *testing.T, p *pair.Pair, m ptp.Msg, at stamp.Stamp, want api.Errno) {
	t.Helper()
	if err := p.Sync(m, at); err != want {
		t.Errorf("Sync(%+v, %d) is %d, not %d", m, int(at), err, want)
	}
}

func holdFollow(t *testing.T, p *pair.Pair, m ptp.Msg, delay stamp.Stamp, ratio rate.Rate, want api.Errno) {
	t.Helper()
	if err := p.Follow(m, delay, ratio); err != want {
		t.Errorf("Follow(%+v, %d, %d) is %d, not %d", m, int(delay), int(ratio), err, want)
	}
}

func holdFresh(t *testing.T, p *pair.Pair, d int, now stamp.Stamp, want bool) {
	t.Helper()
	if got := p.Fresh(d, now); got != want {
		t.Errorf("Fresh(%d, %d) is %v", d, int(now), got)
	}
}

func holdPick(t *testing.T, p *pair.Pair, now stamp.Stamp, want int) {
	t.Helper()
	if got := p.Pick(now); got != want {
		t.Errorf("Pick(%d) is %d, not %d", int(now), got, want)
	}
}

func holdAt(t *testing.T, p *pair.Pair, now, want stamp.Stamp) {
	t.Helper()
	if got, ok := p.At(now); got != want || !ok {
		t.Errorf("At(%d) is %d, %v, not %d", int(now), int(got), ok, int(want))
	}
}

func holdNoAt(t *testing.T, p *pair.Pair, now stamp.Stamp) {
	t.Helper()
	if got, ok := p.At(now); got != 0 || ok {
		t.Errorf("At(%d) is %d, %v", int(now), int(got), ok)
	}
}

// same tells whether two messages are one; no path and an empty one are.
func same(m, n ptp.Msg) bool {
	isPath := slices.Equal(m.Path, n.Path)
	return isPath && m.Kind == n.Kind && m.Domain == n.Domain && m.Seq == n.Seq && m.Src == n.Src && m.Port == n.Port &&
		m.Corr == n.Corr && m.Time == n.Time && m.To == n.To && m.ToPort == n.ToPort && m.Rate == n.Rate &&
		m.Best == n.Best && m.Steps == n.Steps
}

// holdTell holds Tell of a domain against the time, what is beside it, and the rate that it must tell.
func holdTell(t *testing.T, p *pair.Pair, d int, at, time, corr stamp.Stamp, r rate.Rate) {
	t.Helper()
	want := ptp.Msg{Kind: ptp.Follow, Domain: d, Seq: 65535, Src: 77, Port: 8, Corr: corr, Time: time, Rate: r}
	if m, ok := p.Tell(d, 65535, 77, 8, at); !ok || !same(m, want) {
		t.Errorf("Tell(%d, .., %d) is %+v, %v, not %+v", d, int(at), m, ok, want)
	}
}

func holdNoTell(t *testing.T, p *pair.Pair, d int, at stamp.Stamp) {
	t.Helper()
	if m, ok := p.Tell(d, 1, 2, 3, at); ok || !same(m, ptp.Msg{}) {
		t.Errorf("Tell(%d, .., %d) is %+v, %v", d, int(at), m, ok)
	}
}

// holdUnknown holds a pair against that it knows no time, and that none held yet.
func holdUnknown(t *testing.T, p *pair.Pair) {
	t.Helper()
	for _, now := range ends {
		holdPick(t, p, now, -1)
		holdNoAt(t, p, now)
		for _, d := range append([]int{0, 1}, strangers...) {
			holdFresh(t, p, d, now, false)
			holdNoTell(t, p, d, now)
		}
	}
}

// P21.3: the chapter's example.
func TestExample(t *testing.T) {
	p := newPair(t, 3000*ns)
	tellAt(t, p, 0, 1000*ns, 0, one)
	tellAt(t, p, 1, 5000*ns, 0, one)
	holdPick(t, p, 2000*ns, 0)
	holdPick(t, p, 6000*ns, 1)
	holdPick(t, p, 20000*ns, 1)
}

// P21.1: most at its least, and below; none has held.
func TestNew(t *testing.T) {
	for _, far := range []stamp.Stamp{least, least + 1, -1 << 32, -1, 0} {
		if p, err := pair.New(far); p != nil || err != api.ErrArg {
			t.Errorf("New(%d) is %v, %d", int(far), p, err)
		}
	}
	for _, far := range []stamp.Stamp{1, 2, ns, 1 << 62, most} {
		holdUnknown(t, newPair(t, far))
	}
}

// P21.1: a nil Pair.
func TestNil(t *testing.T) {
	var p *pair.Pair
	for range 2 {
		holdUnknown(t, p)
		for _, d := range append([]int{0, 1}, strangers...) {
			holdSync(t, p, mark(d), 0, api.ErrOrder)
			holdFollow(t, p, follow(d, 0, one), 0, one, api.ErrOrder)
			holdFollow(t, p, follow(d, most, 0), most, 0, api.ErrOrder)
			p.Root(d, true, 5)
			p.Root(d, false, 5)
			p.Root(d, true, 5)
		}
		holdSync(t, p, ptp.Msg{Kind: -1}, 0, api.ErrOrder)
		holdFollow(t, p, ptp.Msg{Kind: -1}, 0, 0, api.ErrOrder)
	}
	holdUnknown(t, p)
}

// A pair that New didn't make: no call panics.
func TestNotMade(t *testing.T) {
	var p pair.Pair
	for _, d := range []int{0, 1, 2, -1} {
		p.Root(d, true, 5)
		p.Sync(mark(d), 0)
		p.Follow(follow(d, 0, one), 0, one)
		p.Tell(d, 1, 2, 3, 4)
		p.Fresh(d, 5)
		p.Pick(5)
		p.At(5)
		p.Root(d, false, 5)
	}
}

// P21.1: Root of domain 0 and of 1: its clock's Own, and not the other one's.
func TestRoot(t *testing.T) {
	for d := range 2 {
		p := newPair(t, 100)
		p.Root(d, true, 700)
		holdPick(t, p, 500, d)
		for _, now := range ends {
			holdFresh(t, p, d, now, true)
			holdFresh(t, p, 1-d, now, false)
			holdTell(t, p, d, now, now, 0, one)
			holdNoTell(t, p, 1-d, now)
			holdPick(t, p, now, d)
			holdAt(t, p, now, now)
		}
		holdSync(t, p, mark(d), 5, api.ErrOrder)
		p.Root(d, false, 900)
		holdFresh(t, p, d, 1000, true)
		holdFresh(t, p, d, 1001, false)
		holdTell(t, p, d, 905, 900, 5, one)
		holdNoTell(t, p, 1-d, 905)
		holdSync(t, p, mark(d), 5, api.OK)
	}
}

// P21.1: Root as it is already, and of no domain, changes nothing; what it goes on from is the time at which it turns.
func TestRootTwice(t *testing.T) {
	for d := range 2 {
		p := newPair(t, 100)
		tellAt(t, p, d, 1000, 5000, one+1<<34)
		for _, now := range ends {
			p.Root(d, false, now)
			for _, x := range strangers {
				p.Root(x, true, now)
				p.Root(x, false, now)
			}
		}
		holdTell(t, p, d, 1128, 5000, 129, one+1<<34)
		p.Root(d, true, 1128)
		for _, now := range ends {
			p.Root(d, true, now)
		}
		holdTell(t, p, d, 1130, 5131, 0, one)
		p.Root(d, false, 1130)
		holdTell(t, p, d, 1135, 5131, 5, one)
		holdFresh(t, p, d, 1230, true)
		holdFresh(t, p, d, 1231, false)
	}
}

// P21.1: messages of domain 0 and 1 are those of their clocks alone; of other domains they are refused.
func TestDomains(t *testing.T) {
	for d := range 2 {
		p := newPair(t, 100)
		holdSync(t, p, mark(d), 600, api.OK)
		for _, x := range append([]int{1 - d}, strangers...) {
			// Nothing is open there.
			holdFollow(t, p, follow(x, 7, one), 0, one, api.ErrOrder)
			holdFollow(t, p, follow(x, most, 0), most, 0, api.ErrOrder)
		}
		for _, x := range strangers {
			holdSync(t, p, mark(x), 700, api.ErrOrder)
		}
		holdUnknown(t, p)
		holdFollow(t, p, follow(d, 5000, one), 50, one, api.OK)
		holdTell(t, p, d, 620, 5050, 20, one)
		holdFresh(t, p, d, 700, true)
		holdFresh(t, p, 1-d, 700, false)
		holdNoTell(t, p, 1-d, 620)
		holdFollow(t, p, follow(d, 5000, one), 50, one, api.ErrOrder)
		// The other one beside it.
		holdSync(t, p, mark(1-d), 650, api.OK)
		holdFollow(t, p, follow(d, 5000, one), 50, one, api.ErrOrder)
		holdSync(t, p, mark(d), 660, api.OK)
		holdFollow(t, p, follow(1-d, 9000, one), 0, one, api.OK)
		holdFollow(t, p, follow(d, 7000, one), 0, one, api.OK)
		holdTell(t, p, d, 670, 7000, 10, one)
		holdTell(t, p, 1-d, 670, 9000, 20, one)
	}
}

// P21.1: the errors of a Follow are its clock's: its Sync isn't open behind one, and nothing else is changed.
func TestFollowErrors(t *testing.T) {
	for d := range 2 {
		for _, x := range []struct {
			time, delay stamp.Stamp
			r, ratio    rate.Rate
			want        api.Errno
		}{
			{0, 0, most, most, api.ErrOver},
			{0, 0, one, one + 1<<34 + 1, api.ErrRate},
			{most, 1, one, one, api.ErrOver},
			{0, most, one + 1<<34, one, api.ErrOver},
		} {
			p := newPair(t, 100)
			tellAt(t, p, d, 1000, 5000, one)
			holdSync(t, p, mark(d), 1010, api.OK)
			holdFollow(t, p, follow(d, x.time, x.r), x.delay, x.ratio, x.want)
			holdFollow(t, p, follow(d, 0, one), 0, one, api.ErrOrder)
			holdTell(t, p, d, 1100, 5000, 100, one)
			holdFresh(t, p, d, 1100, true)
			holdFresh(t, p, d, 1101, false)
		}
		p := newPair(t, 100)
		for _, m := range []ptp.Msg{{Kind: ptp.Req, Domain: d}, {Kind: ptp.Sync, Domain: d, Seq: -1}, {Kind: -1, Domain: d}, follow(d, 0, one)} {
			holdSync(t, p, m, 5, api.ErrOrder)
		}
		holdSync(t, p, mark(d), 5, api.OK)
		for _, m := range []ptp.Msg{mark(d), {Kind: ptp.Follow, Domain: d, Seq: 5, Src: 9}, {Kind: ptp.Follow, Domain: d, Seq: 4, Src: 8}} {
			holdFollow(t, p, m, 0, one, api.ErrOrder)
		}
		holdUnknown(t, p)
	}
}

// P21.1: Fresh just at most, and one beyond; of another domain it never is.
func TestFresh(t *testing.T) {
	for d := range 2 {
		for _, far := range []stamp.Stamp{1, 2, 3000 * ns, 1 << 60} {
			p := newPair(t, far)
			tellAt(t, p, d, 500*ns, 0, one)
			for _, now := range []stamp.Stamp{least + 500*ns, 0, 500 * ns, 500*ns + far - 1, 500*ns + far} {
				holdFresh(t, p, d, now, true)
				holdFresh(t, p, 1-d, now, false)
			}
			// What is further behind than fits isn't fresh.
			for _, now := range []stamp.Stamp{500*ns + far + 1, most, least + 500*ns - 1, least} {
				holdFresh(t, p, d, now, false)
			}
			for _, x := range strangers {
				holdFresh(t, p, x, 500*ns, false)
			}
		}
		// Where the own clock is both domains' best one.
		p := newPair(t, 1)
		p.Root(0, true, 0)
		p.Root(1, true, 0)
		for _, x := range strangers {
			holdFresh(t, p, x, 0, false)
			holdNoTell(t, p, x, 0)
		}
		holdFresh(t, p, d, most, true)
	}
}

// P21.2: Tell is its clock's: what is wrong with its numbers is wrong here.
func TestTellWrong(t *testing.T) {
	for d := range 2 {
		p := newPair(t, 100)
		tellAt(t, p, d, 1000, 5000, one)
		for _, x := range []struct{ seq, src, port int }{{-1, 0, 0}, {65536, 0, 0}, {0, -1, 0}, {0, 1 << 48, 0}, {0, 0, -1}, {0, 0, 65536}, {most, most, least}} {
			if m, ok := p.Tell(d, x.seq, x.src, x.port, 1000); ok || !same(m, ptp.Msg{}) {
				t.Errorf("Tell(%d, %+v, 1000) is %+v", d, x, m)
			}
		}
		holdNoTell(t, p, d, least)
		holdNoTell(t, p, d, most)
	}
}
