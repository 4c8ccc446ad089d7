package osc_test

import (
	"math"
	"math/big"
	"slices"
	"testing"

	"sandglass/api"
	"sandglass/osc"
	"sandglass/rate"
	"sandglass/stamp"
)

const (
	most    = math.MaxInt
	least   = math.MinInt
	unit    = 65536
	maxTime = 1 << 40
	far     = 1 << 60
	one     = rate.One
	slowest = rate.One - rate.Most
	fastest = rate.One + rate.Most
)

// script is what a clock is made of.
type script struct {
	start stamp.Stamp
	grain int
	turns []osc.Turn
}

// steady is a script of a clock that turns so often, each time so much later, at rates that differ.
func steady(count, apart int) []osc.Turn {
	var turns []osc.Turn
	for i := range count {
		turns = append(turns, osc.Turn{At: i * apart, Rate: one + rate.Rate((i*7919)%4001-2000)*4000000 + rate.Rate(i)})
	}
	return turns
}

// scripts are clocks that are right: with one turn and with many, at the ends of all that may be chosen.
func scripts() []script {
	list := []script{
		{0, 8, []osc.Turn{{Rate: one}}},
		{5 * unit, 8, []osc.Turn{{Rate: one}, {At: 1000, Rate: one + 219902300}}},
		{1, 1, []osc.Turn{{Rate: one + 1}, {At: 1, Rate: one - 1}, {At: 2, Rate: one + 3}, {At: maxTime, Rate: fastest}}},
		{-7, 10, []osc.Turn{{Rate: fastest}, {At: 33333333, Rate: slowest}, {At: 1<<25 + 1, Rate: one + 12345}}},
		{12345, 999, steady(64, 17)},
		{-3 * unit / 2, 40, steady(64, maxTime/63)},
		{99, 3, steady(63, 1)},
	}
	for _, start := range []stamp.Stamp{-far, -far + 1, -1, far - 1, far} {
		for _, r := range []rate.Rate{slowest, slowest + 1, one - 1, one, fastest} {
			for _, grain := range []int{1, 8, 1000} {
				list = append(list, script{start, grain, []osc.Turn{{Rate: r}, {At: 1<<39 + 7, Rate: slowest + fastest - r}}})
			}
		}
	}
	return list
}

// made is the clock of a script.
func made(t *testing.T, s script) *osc.Clock {
	t.Helper()
	c, err := osc.New(s.start, s.grain, s.turns)
	if c == nil || err != api.OK {
		t.Fatalf("New(%d, %d, %d turns) is refused with %d", int(s.start), s.grain, len(s.turns), err)
	}
	return c
}

// below is the greatest whole number of times by that isn't above x; by is above 0.
func below(x, by *big.Int) *big.Int { return new(big.Int).Div(x, by) }

// tells is what a script's clock tells, turn by turn as the chapter says it, with numbers of any length.
func (s script) tells(at int) stamp.Stamp {
	told := big.NewInt(int64(s.start))
	for i, t := range s.turns {
		to := at
		if i+1 < len(s.turns) {
			to = min(at, s.turns[i+1].At)
		}
		if to > t.At {
			far := new(big.Int).Mul(big.NewInt(int64(to-t.At)), big.NewInt(int64(t.Rate)))
			told.Add(told, below(far, big.NewInt(1<<25)))
		}
	}
	return stamp.Stamp(told.Int64())
}

// runs is how fast a script's clock runs.
func (s script) runs(at int) rate.Rate {
	var r rate.Rate
	for _, t := range s.turns {
		if t.At <= at {
			r = t.Rate
		}
	}
	return r
}

// times are true times at the ends, at a script's turns, just ahead of them and just behind, and others.
func (s script) times() []int {
	list := []int{0, 1, 2, 3, 7, 10, 1000, 1<<25 - 1, 1 << 25, 1<<25 + 1, 123456789012, maxTime / 2, maxTime - 1, maxTime}
	for _, t := range s.turns {
		for d := -2; d <= 2; d++ {
			if at := t.At + d; at >= 0 && at <= maxTime {
				list = append(list, at)
			}
		}
	}
	return list
}

// P7.2: At, Mark and Rate of many clocks at many times.
func TestTells(t *testing.T) {
	for i, s := range scripts() {
		c := made(t, s)
		for _, at := range s.times() {
			want := s.tells(at)
			if got, err := c.At(at); got != want || err != api.OK {
				t.Errorf("clock %d: At(%d) is %d, %d, not %d", i, at, int(got), err, int(want))
			}
			grain := big.NewInt(int64(s.grain) * unit)
			mark := stamp.Stamp(new(big.Int).Mul(below(big.NewInt(int64(want)), grain), grain).Int64())
			if got, err := c.Mark(at); got != mark || err != api.OK {
				t.Errorf("clock %d: Mark(%d) is %d, %d, not %d", i, at, int(got), err, int(mark))
			}
			if got, err := c.Rate(at); got != s.runs(at) || err != api.OK {
				t.Errorf("clock %d: Rate(%d) is %d, %d, not %d", i, at, int(got), err, int(s.runs(at)))
			}
		}
	}
}

// P7.2: a clock's marks and what it tells, held against each other.
func TestMarkHoldsAt(t *testing.T) {
	for i, s := range scripts() {
		c := made(t, s)
		grain := stamp.Stamp(s.grain) * unit
		for _, at := range s.times() {
			told, _ := c.At(at)
			mark, err := c.Mark(at)
			if err != api.OK || mark%grain != 0 || mark > told || told-mark >= grain {
				t.Errorf("clock %d: at %d it tells %d, and marks %d, %d", i, at, int(told), int(mark), err)
			}
		}
	}
}

// P7.2: to the letter, what a clock tells: rounded down at each turn and each time, below nought too.
func TestTellsEdges(t *testing.T) {
	two := []osc.Turn{{Rate: one - 1}, {At: 3, Rate: fastest}, {At: 10, Rate: slowest}}
	for _, x := range []struct {
		script
		at   int
		tell stamp.Stamp
		mark stamp.Stamp
		rate rate.Rate
	}{
		{script{0, 8, []osc.Turn{{Rate: one}}}, 0, 0, 0, one},
		{script{0, 8, []osc.Turn{{Rate: one}}}, 10, 10 * unit, 8 * unit, one},
		{script{0, 8, []osc.Turn{{Rate: one}}}, maxTime, 1 << 56, 1 << 56, one},
		{script{5 * unit, 8, []osc.Turn{{Rate: one}}}, 0, 5 * unit, 0, one},
		{script{-1, 1, []osc.Turn{{Rate: one}}}, 0, -1, -unit, one},
		{script{-1, 1000, []osc.Turn{{Rate: one}}}, 1, unit - 1, 0, one},
		{script{0, 1, two}, 2, 2*unit - 1, unit, one - 1},
		{script{0, 1, two}, 3, 3*unit - 1, 2 * unit, fastest},
		{script{0, 1, two}, 4, 4*unit + 511, 4 * unit, fastest},
		{script{0, 1, two}, 9, 9*unit + 6*512 - 1, 9 * unit, fastest},
		{script{0, 1, two}, 10, 10*unit + 7*512 - 1, 10 * unit, slowest},
		{script{0, 1, two}, 11, 11*unit + 6*512 - 1, 11 * unit, slowest},
		{script{-4 * unit, 1, two}, 2, -2*unit - 1, -3 * unit, one - 1},
		{script{-4 * unit, 2, two}, 3, -unit - 1, -2 * unit, fastest},
		{script{far, 1, []osc.Turn{{Rate: fastest}}}, maxTime, far + 1<<56 + 1<<49, far + 1<<56 + 1<<49, fastest},
		{script{-far, 1, []osc.Turn{{Rate: slowest}}}, maxTime, -far + 1<<56 - 1<<49, -far + 1<<56 - 1<<49, slowest},
		{script{-far, 1000, []osc.Turn{{Rate: one}}}, 0, -far, -17592186045000 * unit, one},
		{script{0, 1, []osc.Turn{{Rate: one}, {At: maxTime, Rate: fastest}}}, maxTime - 1, (maxTime - 1) * unit, (maxTime - 1) * unit, one},
		{script{0, 1, []osc.Turn{{Rate: one}, {At: maxTime, Rate: fastest}}}, maxTime, 1 << 56, 1 << 56, fastest},
	} {
		c := made(t, x.script)
		if got, err := c.At(x.at); got != x.tell || err != api.OK {
			t.Errorf("from %d: At(%d) is %d, %d, not %d", int(x.start), x.at, int(got), err, int(x.tell))
		}
		if got, err := c.Mark(x.at); got != x.mark || err != api.OK {
			t.Errorf("from %d: Mark(%d) is %d, %d, not %d", int(x.start), x.at, int(got), err, int(x.mark))
		}
		if got, err := c.Rate(x.at); got != x.rate || err != api.OK {
			t.Errorf("from %d: Rate(%d) is %d, %d, not %d", int(x.start), x.at, int(got), err, int(x.rate))
		}
	}
}

// P7.2: each turn's rounding goes on: 64 turns a nanosecond apart lose a part each, where one turn loses one in all.
func TestRoundsAtTurns(t *testing.T) {
	turns := make([]osc.Turn, 64)
	for i := range turns {
		turns[i] = osc.Turn{At: i, Rate: one - 1}
	}
	for _, x := range []struct {
		turns []osc.Turn
		want  stamp.Stamp
	}{{turns, 64*unit - 64}, {turns[:1], 64*unit - 1}, {turns[:8], 64*unit - 8}} {
		if got, err := made(t, script{0, 1, x.turns}).At(64); got != x.want || err != api.OK {
			t.Errorf("%d turns: At(64) is %d, %d, not %d", len(x.turns), int(got), err, int(x.want))
		}
	}
}

// P7.2: times that are none, and the nil clock; a clock that New didn't make tells nothing either.
func TestTellsWrong(t *testing.T) {
	good := made(t, scripts()[1])
	for _, x := range []struct {
		c  *osc.Clock
		at int
	}{
		{good, -1}, {good, maxTime + 1}, {good, least}, {good, most}, {good, 1 << 41}, {good, -maxTime},
		{nil, 0}, {nil, -1}, {nil, maxTime}, {nil, maxTime + 1}, {nil, least}, {&osc.Clock{}, 0}, {&osc.Clock{}, maxTime},
	} {
		if got, err := x.c.At(x.at); got != 0 || err != api.ErrArg {
			t.Errorf("At(%d) is %d, %d", x.at, int(got), err)
		}
		if got, err := x.c.Mark(x.at); got != 0 || err != api.ErrArg {
			t.Errorf("Mark(%d) is %d, %d", x.at, int(got), err)
		}
		if got, err := x.c.Rate(x.at); got != 0 || err != api.ErrArg {
			t.Errorf("Rate(%d) is %d, %d", x.at, int(got), err)
		}
	}
}

// P7.3: When of what a clock tells at a time, of one part less and of one more.
func TestWhen(t *testing.T) {
	for i, s := range scripts() {
		c := made(t, s)
		for _, at := range s.times() {
			told := s.tells(at)
			if got, err := c.When(told); got != at || err != api.OK {
				t.Errorf("clock %d: When(%d) is %d, %d, not %d", i, int(told), got, err, at)
			}
			// A nanosecond is many parts at any right rate.
			if got, err := c.When(told - 1); got != at || err != api.OK {
				t.Errorf("clock %d: When(%d) is %d, %d, not %d", i, int(told)-1, got, err, at)
			}
			want, e := at+1, api.OK
			if at == maxTime {
				want, e = 0, api.ErrOver
			}
			if got, err := c.When(told + 1); got != want || err != e {
				t.Errorf("clock %d: When(%d) is %d, %d, not %d, %d", i, int(told)+1, got, err, want, e)
			}
		}
	}
}

// P7.3: to the letter, When of what is told at 0, ahead of it, at MaxTime, and never; the nil clock.
func TestWhenEdges(t *testing.T) {
	plain := made(t, script{0, 8, []osc.Turn{{Rate: one}}})
	late := made(t, script{5 * unit, 1000, []osc.Turn{{Rate: one}, {At: 10, Rate: slowest}, {At: maxTime, Rate: fastest}}})
	low := made(t, script{-far, 1, []osc.Turn{{Rate: fastest}}})
	high := made(t, script{far, 1, []osc.Turn{{Rate: fastest}}})
	for _, x := range []struct {
		c    *osc.Clock
		s    stamp.Stamp
		want int
		err  api.Errno
	}{
		{plain, 5 * unit, 5, api.OK}, {plain, 5*unit - 1, 5, api.OK}, {plain, 5*unit + 1, 6, api.OK},
		{plain, 0, 0, api.OK}, {plain, -1, 0, api.OK}, {plain, least, 0, api.OK}, {plain, 1, 1, api.OK},
		{plain, 1 << 56, maxTime, api.OK}, {plain, 1<<56 - unit + 1, maxTime, api.OK}, {plain, 1<<56 - unit, maxTime - 1, api.OK},
		{plain, 1<<56 + 1, 0, api.ErrOver}, {plain, most, 0, api.ErrOver},
		{late, 5 * unit, 0, api.OK}, {late, 0, 0, api.OK}, {late, 5*unit + 1, 1, api.OK},
		{late, 15 * unit, 10, api.OK}, {late, 15*unit + 1, 11, api.OK}, {late, 16*unit - 512, 11, api.OK}, {late, 16*unit - 511, 12, api.OK},
		{late, 15*unit + (maxTime-10)*(unit-512), maxTime, api.OK}, {late, 15*unit + (maxTime-10)*(unit-512) + 1, 0, api.ErrOver},
		{low, least, 0, api.OK}, {low, -far, 0, api.OK}, {low, -far + 1, 1, api.OK}, {low, -far + 1<<56 + 1<<49, maxTime, api.OK}, {low, 0, 0, api.ErrOver},
		{high, far, 0, api.OK}, {high, 0, 0, api.OK}, {high, far + 1<<56 + 1<<49, maxTime, api.OK}, {high, far + 1<<56 + 1<<49 + 1, 0, api.ErrOver}, {high, most, 0, api.ErrOver},
		{nil, 0, 0, api.ErrArg}, {nil, least, 0, api.ErrArg}, {nil, most, 0, api.ErrArg}, {&osc.Clock{}, 0, 0, api.ErrArg}, {&osc.Clock{}, most, 0, api.ErrArg},
	} {
		if got, err := x.c.When(x.s); got != x.want || err != x.err {
			t.Errorf("When(%d) is %d, %d, not %d, %d", int(x.s), got, err, x.want, x.err)
		}
	}
}

// P7.2, P7.3: many times at random: When finds each again, and between two nanoseconds the later one.
func TestWhenLong(t *testing.T) {
	x := uint64(1)
	for i, s := range scripts() {
		c := made(t, s)
		for range 200 {
			x = x*6364136223846793005 + 1442695040888963407
			at := int(x>>24) % maxTime
			told, err := c.At(at)
			if told != s.tells(at) || err != api.OK {
				t.Fatalf("clock %d: At(%d) is %d, %d", i, at, int(told), err)
			}
			next, _ := c.At(at + 1)
			for _, want := range []struct {
				s  stamp.Stamp
				at int
			}{{told, at}, {told + 1, at + 1}, {told + (next-told)/2, at + 1}, {next, at + 1}} {
				if got, err := c.When(want.s); got != want.at || err != api.OK {
					t.Fatalf("clock %d: When(%d) is %d, %d, not %d", i, int(want.s), got, err, want.at)
				}
			}
		}
	}
}

// P7.2: what turns there are is kept as it was handed in, and nothing else; the list isn't changed, nor the room behind it.
func TestNewKeepsNothing(t *testing.T) {
	room := steady(8, 1000)
	was := slices.Clone(room)
	s := script{7 * unit, 8, room[:4]}
	c := made(t, s)
	other := made(t, script{0, 1, room[:4]})
	if !slices.Equal(room, was) {
		t.Error("New has changed what it was handed")
	}
	told, _ := c.At(5000)
	for i := range room {
		room[i] = osc.Turn{At: -5, Rate: 9}
	}
	if got, err := c.At(5000); got != told || err != api.OK {
		t.Errorf("At(5000) is %d, %d, not %d, behind a change of the list", int(got), err, int(told))
	}
	if r, err := c.Rate(2000); r != was[2].Rate || err != api.OK {
		t.Errorf("Rate(2000) is %d, %d", int(r), err)
	}
	if got, _ := other.At(5000); got != told-7*unit {
		t.Errorf("another clock tells %d at 5000, not %d", int(got), int(told-7*unit))
	}
}
