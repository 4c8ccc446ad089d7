package seqr_test

import (
	"math"
	"testing"

	"sandglass/api"
	"sandglass/seqr"
)

const (
	most    = math.MaxInt
	least   = math.MinInt
	maxTime = 1 << 40
	numbers = 1 << 16
)

// newSeqr is one that must be there.
func newSeqr(t *testing.T, c seqr.Conf, now int) *seqr.Seqr {
	t.Helper()
	s, err := seqr.New(c, now)
	if err != api.OK || s == nil {
		t.Fatalf("New(%v, %d) is there: %v, %d", c, now, s != nil, err)
	}
	return s
}

// vector is one with a window of so many numbers, which stays as it is however silent it is.
func vector(t *testing.T, long int) *seqr.Seqr {
	t.Helper()
	return newSeqr(t, seqr.Conf{Way: seqr.Vector, Len: long, Reset: maxTime}, 0)
}

// holdIn holds an In against what becomes of the frame.
func holdIn(t *testing.T, s *seqr.Seqr, now, seq, want int) {
	t.Helper()
	if what, err := s.In(now, seq); what != want || err != api.OK {
		t.Errorf("In(%d, %d) is %d, %d, not %d", now, seq, what, err, want)
	}
}

// holdTold holds one against what it tells: Counts, Resets and Lost.
func holdTold(t *testing.T, s *seqr.Seqr, counts [4]int, resets, lost int) {
	t.Helper()
	if got := s.Counts(); got != counts {
		t.Errorf("Counts is %v, not %v", got, counts)
	}
	if got := s.Resets(); got != resets {
		t.Errorf("Resets is %d, not %d", got, resets)
	}
	if got := s.Lost(); got != lost {
		t.Errorf("Lost is %d, not %d", got, lost)
	}
}

// holdRefused holds an In against being refused, and that what is told stays.
func holdRefused(t *testing.T, s *seqr.Seqr, now, seq int) {
	t.Helper()
	counts, resets, lost := s.Counts(), s.Resets(), s.Lost()
	if what, err := s.In(now, seq); what != seqr.Rogue || err != api.ErrArg {
		t.Errorf("In(%d, %d) is %d, %d, not Rogue, ErrArg", now, seq, what, err)
	}
	holdTold(t, s, counts, resets, lost)
}

// round is a number, round the numbers' end.
func round(x int) int { return (x%numbers + numbers) % numbers }

// wrongNumbers are none that a frame has.
func wrongNumbers() []int {
	return []int{-1, -2, numbers, numbers + 1, 2 * numbers, -numbers, 1 << 32, -1 << 32, 1 << 62, most, least}
}

// P13.1: each number of a setup at its ends and beyond.
func TestCheck(t *testing.T) {
	for _, x := range []struct {
		name  string
		at    func(*seqr.Conf) *int
		right []int
		wrong []int
	}{
		{"Way", func(c *seqr.Conf) *int { return &c.Way }, []int{seqr.Vector, seqr.Match}, []int{-1, 2, 3, 1 << 32}},
		{"Len", func(c *seqr.Conf) *int { return &c.Len }, []int{1, 2, 63, 64}, []int{0, -1, 65, 66, 128, 1<<32 + 1}},
		{"Reset", func(c *seqr.Conf) *int { return &c.Reset }, []int{1, 2, 1_000_000_000, maxTime - 1, maxTime}, []int{0, -1, maxTime + 1, 2 * maxTime}},
	} {
		for _, c := range []seqr.Conf{{Len: 1, Reset: 1}, {Way: seqr.Match, Len: 64, Reset: maxTime}, {Len: 64, Reset: maxTime}, {Way: seqr.Match, Len: 1, Reset: 1}} {
			for _, v := range x.right {
				*x.at(&c) = v
				if err := c.Check(); err != api.OK {
					t.Errorf("%s: Check of %v is %d", x.name, c, err)
				}
				newSeqr(t, c, 0)
			}
			for _, v := range append(x.wrong, least, most) {
				*x.at(&c) = v
				if err := c.Check(); err != api.ErrArg {
					t.Errorf("%s: Check of %v is %d", x.name, c, err)
				}
				for _, now := range []int{0, -1, maxTime + 1} {
					if s, err := seqr.New(c, now); s != nil || err != api.ErrArg {
						t.Errorf("%s: New(%v, %d) is there: %v, %d", x.name, c, now, s != nil, err)
					}
				}
			}
		}
	}
	for _, c := range []seqr.Conf{{}, {Way: -1, Len: 65, Reset: maxTime + 1}, {Way: 2}, {Len: 1}, {Reset: 1}} {
		if err := c.Check(); err != api.ErrArg {
			t.Errorf("Check of %v is %d", c, err)
		}
	}
	if seqr.Vector != 0 || seqr.Match != 1 || seqr.Numbers != numbers || seqr.MostLen != 64 {
		t.Error("the constants are", seqr.Vector, seqr.Match, seqr.Numbers, seqr.MostLen)
	}
	if seqr.Taken != 0 || seqr.Again != 1 || seqr.Rogue != 2 || seqr.Late != 3 {
		t.Error("what becomes is", seqr.Taken, seqr.Again, seqr.Rogue, seqr.Late)
	}
}

// P13.1, P13.2: the first number of all is taken, whichever and whenever; that it comes is no Reset.
func TestFirst(t *testing.T) {
	for _, way := range []int{seqr.Vector, seqr.Match} {
		for _, long := range []int{1, 2, 64} {
			for _, reset := range []int{1, maxTime} {
				for _, begin := range []int{0, 5, maxTime, -1, most, least} {
					for _, now := range []int{0, 6, -1, maxTime + 1, most, least} {
						for _, seq := range []int{0, 1, 32767, 32768, 65534, 65535} {
							s := newSeqr(t, seqr.Conf{Way: way, Len: long, Reset: reset}, begin)
							holdTold(t, s, [4]int{}, 0, 0)
							holdIn(t, s, now, seq, seqr.Taken)
							holdTold(t, s, [4]int{seqr.Taken: 1}, 0, 0)
							holdIn(t, s, now, seq, seqr.Again)
							holdTold(t, s, [4]int{seqr.Taken: 1, seqr.Again: 1}, 0, 0)
						}
					}
				}
			}
		}
	}
}

// P13.2: numbers that no frame has are refused; nothing has come by them.
func TestWrongNumbers(t *testing.T) {
	for _, way := range []int{seqr.Vector, seqr.Match} {
		s := newSeqr(t, seqr.Conf{Way: way, Len: 8, Reset: 100}, 0)
		for _, seq := range wrongNumbers() {
			for _, now := range []int{0, 99, 100, -1, maxTime, most, least} {
				holdRefused(t, s, now, seq)
			}
		}
		holdIn(t, s, 0, 65535, seqr.Taken)
		for _, seq := range wrongNumbers() {
			holdRefused(t, s, 0, seq)
		}
		holdIn(t, s, 0, 0, seqr.Taken)
		for _, seq := range wrongNumbers() {
			holdRefused(t, s, 0, seq)
		}
		holdIn(t, s, 0, 0, seqr.Again)
		if s.Counts()[seqr.Taken] != 2 {
			t.Error("Counts is", s.Counts())
		}
	}
}

// P13.2: a refused number behind long silence is no Reset, nor is it one by which the silence ends.
func TestRefusedBehindSilence(t *testing.T) {
	for _, way := range []int{seqr.Vector, seqr.Match} {
		s := newSeqr(t, seqr.Conf{Way: way, Len: 8, Reset: 100}, 0)
		holdIn(t, s, 10, 5, seqr.Taken)
		for _, seq := range wrongNumbers() {
			for _, now := range []int{109, 110, 111, maxTime, most} {
				holdRefused(t, s, now, seq)
			}
		}
		holdIn(t, s, 109, 5, seqr.Again)
		holdTold(t, s, [4]int{seqr.Taken: 1, seqr.Again: 1}, 0, 0)
		holdRefused(t, s, 109, -1)
		holdIn(t, s, 110, 5, seqr.Taken)
		holdTold(t, s, [4]int{seqr.Taken: 2, seqr.Again: 1}, 1, 0)
	}
}

// P13.3: the nil Seqr.
func TestNil(t *testing.T) {
	var s *seqr.Seqr
	for _, x := range []int{0, 1, 65535, -1, numbers, maxTime, most, least} {
		for _, y := range []int{0, 5, 65535, -1, numbers, most, least} {
			holdRefused(t, s, x, y)
		}
		s.Reset()
		holdTold(t, s, [4]int{}, 0, 0)
	}
}

// P13.2: one that New didn't make, and that has no window, answers all the same.
func TestNoWindow(t *testing.T) {
	s := &seqr.Seqr{}
	holdTold(t, s, [4]int{}, 0, 0)
	for _, seq := range wrongNumbers() {
		holdRefused(t, s, 0, seq)
	}
	holdIn(t, s, 0, 5, seqr.Taken)
	for _, seq := range []int{5, 4, 6, 65535, 32773, 32772} {
		holdIn(t, s, -1, seq, seqr.Rogue)
	}
	s.Reset()
	holdIn(t, s, 0, 5, seqr.Taken)
}

// P13.3: numbers that are given away go on from 0, and round their end, twice.
func TestGen(t *testing.T) {
	g, other := &seqr.Gen{}, seqr.Gen{}
	for i := range 2*numbers + 3 {
		if x := g.Next(); x != i%numbers {
			t.Fatalf("Next is %d the %d. time", x, i)
		}
	}
	for i := range 3 {
		if x := other.Next(); x != i {
			t.Fatalf("Next of another one is %d the %d. time", x, i)
		}
	}
	var none *seqr.Gen
	for range 3 {
		if x := none.Next(); x != 0 {
			t.Errorf("Next of none is %d", x)
		}
	}
}

// P13.2: two of one setup never meet.
func TestTwo(t *testing.T) {
	a, b := vector(t, 8), vector(t, 8)
	holdIn(t, a, 0, 5, seqr.Taken)
	holdIn(t, a, 0, 9, seqr.Taken)
	holdIn(t, b, 0, 5, seqr.Taken)
	holdIn(t, b, 0, 9, seqr.Taken)
	a.Reset()
	holdIn(t, b, 0, 9, seqr.Again)
	holdIn(t, a, 0, 9, seqr.Taken)
	holdTold(t, a, [4]int{seqr.Taken: 3}, 1, 4)
	holdTold(t, b, [4]int{seqr.Taken: 2, seqr.Again: 1}, 0, 4)
}
