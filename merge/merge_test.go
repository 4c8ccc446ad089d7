package merge_test

import (
	"math"
	"testing"

	"sandglass/api"
	"sandglass/merge"
	"sandglass/seqr"
)

const (
	most      = math.MaxInt
	least     = math.MinInt
	maxTime   = 1 << 40
	mostLimit = 1 << 30
	numbers   = 1 << 16
)

// wide is a Seqr's setup that no silence ends.
func wide() seqr.Conf { return seqr.Conf{Len: 64, Reset: maxTime} }

// ways is a setup of so many ways.
func ways(n int) merge.Conf {
	return merge.Conf{Ways: n, One: wide(), All: wide(), Every: 10}
}

// newMerge is one that must be there.
func newMerge(t *testing.T, c merge.Conf, now int) *merge.Merge {
	t.Helper()
	m, err := merge.New(c, now)
	if err != api.OK || m == nil {
		t.Fatalf("New(%v, %d) is there: %v, %d", c, now, m != nil, err)
	}
	return m
}

// holdNew holds a Check and a New against their errors.
func holdNew(t *testing.T, c merge.Conf, now int, check, want api.Errno) {
	t.Helper()
	if err := c.Check(); err != check {
		t.Errorf("Check of %v is %d, not %d", c, err, check)
	}
	m, err := merge.New(c, now)
	if err != want || (m != nil) != (want == api.OK) {
		t.Errorf("New(%v, %d) is there: %v, %d, not %d", c, now, m != nil, err, want)
	}
}

// holdIn holds an In against whether the frame is taken.
func holdIn(t *testing.T, m *merge.Merge, now, way, seq int, want bool) {
	t.Helper()
	if taken, err := m.In(now, way, seq); taken != want || err != api.OK {
		t.Errorf("In(%d, %d, %d) is %v, %d, not %v", now, way, seq, taken, err, want)
	}
}

// holdRefused holds an In against its error, and that what is told stays.
func holdRefused(t *testing.T, m *merge.Merge, now, way, seq int, want api.Errno) {
	t.Helper()
	var was [11][4]int
	for i := range was {
		was[i] = m.Counts(i - 1)
	}
	silent := m.Silent()
	if taken, err := m.In(now, way, seq); taken || err != want {
		t.Errorf("In(%d, %d, %d) is %v, %d, not %d", now, way, seq, taken, err, want)
	}
	for i := range was {
		holdCounts(t, m, i-1, was[i])
	}
	holdSilent(t, m, silent)
}

// holdLook holds a Look against what it tells.
func holdLook(t *testing.T, m *merge.Merge, now int, want bool) {
	t.Helper()
	if got := m.Look(now); got != want {
		t.Errorf("Look(%d) is %v", now, got)
	}
}

func holdSilent(t *testing.T, m *merge.Merge, want int) {
	t.Helper()
	if got := m.Silent(); got != want {
		t.Errorf("Silent is %d, not %d", got, want)
	}
}

func holdCounts(t *testing.T, m *merge.Merge, way int, want [4]int) {
	t.Helper()
	if got := m.Counts(way); got != want {
		t.Errorf("Counts(%d) is %v, not %v", way, got, want)
	}
}

// P14.1: each number of a setup at its ends and beyond.
func TestCheck(t *testing.T) {
	for _, x := range []struct {
		name  string
		at    func(*merge.Conf) *int
		right []int
		wrong []int
	}{
		{"Ways", func(c *merge.Conf) *int { return &c.Ways }, []int{1, 2, 7, 8}, []int{0, -1, 9, 10, 1<<32 + 1}},
		{"Every", func(c *merge.Conf) *int { return &c.Every }, []int{1, 2, maxTime - 1, maxTime}, []int{0, -1, maxTime + 1, 2 * maxTime}},
		{"Limit", func(c *merge.Conf) *int { return &c.Limit }, []int{0, 1, mostLimit - 1, mostLimit}, []int{-1, -2, mostLimit + 1, 1 << 32}},
		{"One.Way", func(c *merge.Conf) *int { return &c.One.Way }, []int{0, 1}, []int{-1, 2}},
		{"One.Len", func(c *merge.Conf) *int { return &c.One.Len }, []int{1, 64}, []int{0, 65}},
		{"One.Reset", func(c *merge.Conf) *int { return &c.One.Reset }, []int{1, maxTime}, []int{0, maxTime + 1}},
		{"All.Way", func(c *merge.Conf) *int { return &c.All.Way }, []int{0, 1}, []int{-1, 2}},
		{"All.Len", func(c *merge.Conf) *int { return &c.All.Len }, []int{1, 64}, []int{0, 65}},
		{"All.Reset", func(c *merge.Conf) *int { return &c.All.Reset }, []int{1, maxTime}, []int{0, maxTime + 1}},
	} {
		for _, n := range []int{1, 2, 8} {
			c := ways(n)
			for _, v := range x.right {
				*x.at(&c) = v
				holdNew(t, c, 0, api.OK, api.OK)
			}
			for _, v := range append(x.wrong, least, most) {
				*x.at(&c) = v
				holdNew(t, c, 0, api.ErrArg, api.ErrArg)
				holdNew(t, c, -1, api.ErrArg, api.ErrArg)
			}
		}
	}
	both := ways(2)
	both.One.Len, both.All.Len = 0, 65
	holdNew(t, both, 0, api.ErrArg, api.ErrArg)
	holdNew(t, merge.Conf{}, 0, api.ErrArg, api.ErrArg)
	holdNew(t, merge.Conf{Ways: 2, Every: 10}, 0, api.ErrArg, api.ErrArg)
}

// P14.1: the times at which one may be new.
func TestNew(t *testing.T) {
	for _, now := range []int{0, 1, maxTime - 1, maxTime} {
		for n := 1; n <= 8; n++ {
			holdNew(t, ways(n), now, api.OK, api.OK)
			m := newMerge(t, ways(n), now)
			holdSilent(t, m, 0)
			for i := -1; i <= 9; i++ {
				holdCounts(t, m, i, [4]int{})
			}
		}
	}
	for _, now := range []int{-1, -2, maxTime + 1, 2 * maxTime, most, least} {
		for n := 1; n <= 8; n++ {
			holdNew(t, ways(n), now, api.OK, api.ErrArg)
		}
	}
}

// P14.1, P14.2: One is each way's, All is that of all: each by its own kind, length and Reset.
func TestSetups(t *testing.T) {
	// Each way knows the last number alone, all together know a window.
	c := ways(2)
	c.One.Way = seqr.Match
	m := newMerge(t, c, 0)
	holdIn(t, m, 0, 0, 5, true)
	holdIn(t, m, 0, 0, 7, true)
	holdIn(t, m, 0, 0, 5, false)
	holdIn(t, m, 0, 0, 5, false)
	holdIn(t, m, 0, 0, 200, false)
	holdCounts(t, m, 0, [4]int{seqr.Taken: 4, seqr.Again: 1})
	holdCounts(t, m, 2, [4]int{seqr.Taken: 2, seqr.Again: 1, seqr.Rogue: 1})

	// Each way knows a window, all together know the last number alone.
	c = ways(2)
	c.All = seqr.Conf{Way: seqr.Match, Len: 1, Reset: maxTime}
	m = newMerge(t, c, 0)
	holdIn(t, m, 0, 0, 5, true)
	holdIn(t, m, 0, 1, 5, false)
	holdIn(t, m, 0, 0, 7, true)
	holdIn(t, m, 0, 0, 5, false)
	holdIn(t, m, 0, 1, 4, true)
	holdCounts(t, m, 0, [4]int{seqr.Taken: 2, seqr.Again: 1})
	holdCounts(t, m, 1, [4]int{seqr.Taken: 1, seqr.Late: 1})
	holdCounts(t, m, 2, [4]int{seqr.Taken: 3, seqr.Again: 1})

	// Silence is each one's own.
	c = ways(2)
	c.One.Reset, c.All.Reset = 10, 20
	m = newMerge(t, c, 0)
	holdIn(t, m, 0, 0, 5, true)
	holdIn(t, m, 9, 0, 5, false)
	holdCounts(t, m, 2, [4]int{seqr.Taken: 1})
	holdIn(t, m, 10, 0, 5, false)
	holdCounts(t, m, 2, [4]int{seqr.Taken: 1, seqr.Again: 1})
	holdIn(t, m, 19, 1, 5, false)
	holdIn(t, m, 20, 0, 5, true)
	holdCounts(t, m, 0, [4]int{seqr.Taken: 3, seqr.Again: 1})
	holdCounts(t, m, 1, [4]int{seqr.Taken: 1})
	holdCounts(t, m, 2, [4]int{seqr.Taken: 2, seqr.Again: 2})
}

// P14.1: of eight ways each has a Seqr of its own.
func TestWaysOfTheirOwn(t *testing.T) {
	m := newMerge(t, ways(8), 0)
	for way := range 8 {
		for seq := range way + 1 {
			holdIn(t, m, 0, way, seq, seq == way)
		}
	}
	for way := range 8 {
		holdCounts(t, m, way, [4]int{seqr.Taken: way + 1})
	}
	holdCounts(t, m, 8, [4]int{seqr.Taken: 8, seqr.Again: 28})
}

// P14.2: which ways there are; a way that isn't there comes ahead of a number that isn't right.
func TestPort(t *testing.T) {
	for n := 1; n <= 8; n++ {
		m := newMerge(t, ways(n), 0)
		for _, way := range []int{-1, -2, n, n + 1, 8, 9, 1 << 32, most, least} {
			for _, seq := range []int{0, 5, 65535, -1, numbers, most, least} {
				for _, now := range []int{0, -1, maxTime + 1} {
					holdRefused(t, m, now, way, seq, api.ErrPort)
				}
			}
		}
		for _, way := range []int{0, n - 1} {
			for _, seq := range []int{-1, -2, numbers, numbers + 1, 1 << 32, most, least} {
				for _, now := range []int{0, -1, maxTime + 1, most, least} {
					holdRefused(t, m, now, way, seq, api.ErrArg)
				}
			}
		}
		holdIn(t, m, 0, 0, 65535, true)
		holdIn(t, m, 0, n-1, 0, true)
	}
}

// P14.2: a refused number changes nothing, behind long silence, too.
func TestRefused(t *testing.T) {
	c := ways(2)
	c.One.Reset, c.All.Reset = 10, 10
	m := newMerge(t, c, 0)
	holdIn(t, m, 5, 0, 7, true)
	holdRefused(t, m, 100, 0, -1, api.ErrArg)
	holdRefused(t, m, 100, 1, numbers, api.ErrArg)
	holdRefused(t, m, 100, 2, 7, api.ErrPort)
	holdIn(t, m, 14, 0, 7, false)
	holdIn(t, m, 14, 1, 7, false)
	holdLook(t, m, 20, false)
	holdRefused(t, m, 20, 0, -1, api.ErrArg)
	holdLook(t, m, 30, false)
}

// P14.2: what its own way tells Again or Rogue goes no further, though it were new to all; what all tell Again or Rogue isn't taken, though it is new to its way.
func TestOwnWay(t *testing.T) {
	c := ways(2)
	c.One.Len, c.All.Reset = 4, 10
	m := newMerge(t, c, 0)
	holdIn(t, m, 0, 0, 5, true)
	// Again on its own way, new to all: to them all would be new by now.
	holdIn(t, m, 50, 0, 5, false)
	holdCounts(t, m, 0, [4]int{seqr.Taken: 1, seqr.Again: 1})
	holdCounts(t, m, 2, [4]int{seqr.Taken: 1})
	// Rogue on its own way, near enough for all.
	holdIn(t, m, 50, 0, 9, false)
	holdIn(t, m, 50, 0, 1, false)
	holdIn(t, m, 3, 0, 9, false)
	holdCounts(t, m, 0, [4]int{seqr.Taken: 1, seqr.Again: 1, seqr.Rogue: 3})
	holdCounts(t, m, 2, [4]int{seqr.Taken: 1})
	// New to its way, Again or Rogue to all.
	holdIn(t, m, 3, 1, 5, false)
	holdIn(t, m, 3, 1, 8, true)
	holdIn(t, m, 3, 0, 8, false)
	holdIn(t, m, 3, 0, 7, true)
	holdCounts(t, m, 0, [4]int{seqr.Taken: 2, seqr.Again: 1, seqr.Rogue: 3, seqr.Late: 1})
	holdCounts(t, m, 1, [4]int{seqr.Taken: 2})
	holdCounts(t, m, 2, [4]int{seqr.Taken: 2, seqr.Again: 2, seqr.Late: 1})
	far := newMerge(t, ways(2), 0)
	holdIn(t, far, 0, 0, 5, true)
	holdIn(t, far, 0, 1, 500, false)
	holdIn(t, far, 0, 1, 501, false)
	holdIn(t, far, 0, 1, 501, false)
	holdCounts(t, far, 1, [4]int{seqr.Taken: 2, seqr.Again: 1})
	holdCounts(t, far, 2, [4]int{seqr.Taken: 1, seqr.Rogue: 2})
	// Late to its way, taken by all; Taken by its way, Late to all.
	late := newMerge(t, ways(2), 0)
	holdIn(t, late, 0, 0, 5, true)
	holdIn(t, late, 0, 0, 3, true)
	holdIn(t, late, 0, 1, 4, true)
	holdCounts(t, late, 0, [4]int{seqr.Taken: 1, seqr.Late: 1})
	holdCounts(t, late, 1, [4]int{seqr.Taken: 1})
	holdCounts(t, late, 2, [4]int{seqr.Taken: 1, seqr.Late: 2})
}

// P14.3: Counts of each way, of all, and of others.
func TestCounts(t *testing.T) {
	for n := 1; n <= 8; n++ {
		m := newMerge(t, ways(n), 0)
		for way := range n {
			for range way + 2 {
				m.In(0, way, 9)
			}
		}
		for way := range n {
			holdCounts(t, m, way, [4]int{seqr.Taken: 1, seqr.Again: way + 1})
		}
		holdCounts(t, m, n, [4]int{seqr.Taken: 1, seqr.Again: n - 1})
		for _, way := range []int{-1, -2, n + 1, n + 2, 9, 1 << 32, most, least} {
			holdCounts(t, m, way, [4]int{})
		}
	}
}

// P14.2, P14.3: the nil Merge; and one that New didn't make has no ways.
func TestNil(t *testing.T) {
	var m *merge.Merge
	for _, x := range []int{0, 1, -1, 8, maxTime, most, least} {
		for _, seq := range []int{0, -1, numbers, most, least} {
			holdRefused(t, m, x, 0, seq, api.ErrArg)
			holdRefused(t, m, 0, x, seq, api.ErrArg)
			holdRefused(t, &merge.Merge{}, 0, x, seq, api.ErrPort)
		}
		holdLook(t, m, x, false)
		holdLook(t, &merge.Merge{}, x, false)
		holdCounts(t, m, x, [4]int{})
		holdCounts(t, &merge.Merge{}, x, [4]int{})
	}
	holdSilent(t, m, 0)
	holdSilent(t, &merge.Merge{}, 0)
}

// P14.2, P14.3: two of one setup never meet.
func TestTwo(t *testing.T) {
	a, b := newMerge(t, ways(2), 0), newMerge(t, ways(2), 0)
	holdIn(t, a, 0, 0, 5, true)
	holdIn(t, b, 0, 0, 5, true)
	holdIn(t, b, 0, 1, 5, false)
	holdLook(t, a, 10, true)
	holdLook(t, b, 10, false)
	holdCounts(t, a, 2, [4]int{seqr.Taken: 1})
	holdSilent(t, b, 0)
}
