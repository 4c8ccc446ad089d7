package gates_test

import (
	"testing"

	"sandglass/gates"
)

// holdState holds a State against the set of those that are open.
func holdState(t *testing.T, l gates.List, at, want int) {
	t.Helper()
	if got := l.State(at); got != want {
		t.Errorf("%v: State(%d) is %d, not %d", l, at, got, want)
	}
}

// holdLeft holds a Left against for how long.
func holdLeft(t *testing.T, l gates.List, at, gate, want int) {
	t.Helper()
	if got := l.Left(at, gate); got != want {
		t.Errorf("%v: Left(%d, %d) is %d, not %d", l, at, gate, got, want)
	}
}

// holdNext holds a Next that is true against how long.
func holdNext(t *testing.T, l gates.List, at, gate, want int) {
	t.Helper()
	if got, ok := l.Next(at, gate); got != want || !ok {
		t.Errorf("%v: Next(%d, %d) is %d, %v, not %d", l, at, gate, got, ok, want)
	}
}

// holdNever holds a Next against that it is false.
func holdNever(t *testing.T, l gates.List, at, gate int) {
	t.Helper()
	if got, ok := l.Next(at, gate); got != 0 || ok {
		t.Errorf("%v: Next(%d, %d) is %d, %v, not 0, false", l, at, gate, got, ok)
	}
}

// holdTurn holds a Turn against the time.
func holdTurn(t *testing.T, l gates.List, at, want int) {
	t.Helper()
	if got, ok := l.Turn(at); got != want || !ok {
		t.Errorf("%v: Turn(%d) is %d, %v, not %d", l, at, got, ok, want)
	}
}

// holdNothing holds all calls at a time against that they tell nothing.
func holdNothing(t *testing.T, l gates.List, at int) {
	t.Helper()
	holdState(t, l, at, 0)
	for gate := -1; gate <= 8; gate++ {
		holdLeft(t, l, at, gate, 0)
		holdNever(t, l, at, gate)
	}
	if got, ok := l.Turn(at); got != 0 || ok {
		t.Errorf("%v: Turn(%d) is %d, %v, not 0, false", l, at, got, ok)
	}
}

// P11.2: the chapter's example.
func TestExample(t *testing.T) {
	l := list(0, 10, 1, 3, 2, 4)
	holdState(t, l, 12, 1)
	holdState(t, l, 13, 2)
	holdState(t, l, 9, 2)
	holdLeft(t, l, 14, 1, 6)
	holdNext(t, l, 4, 0, 6)
}

// P11.2: each nanosecond of three cycles, ahead of Base and behind it; the last slot goes on until the cycle's end.
func TestState(t *testing.T) {
	for _, base := range []int{0, 7, 10, 1000, maxTime} {
		l := list(base, 10, 1, 3, 2, 1, 4, 2)
		for round := -2; round <= 2; round++ {
			for gone, want := range []int{1, 1, 1, 2, 4, 4, 4, 4, 4, 4} {
				holdState(t, l, base+10*round+gone, want)
			}
		}
	}
	one := list(5, 1, 200, 1)
	for at := -3; at < 20; at++ {
		holdState(t, one, at, 200)
	}
	// A slot of which there are many, each a nanosecond long.
	l := gates.List{Base: 9, Cycle: 100}
	for i := range 64 {
		l.Slots = append(l.Slots, gates.Slot{Open: i, Len: 1})
	}
	for gone := range 100 {
		holdState(t, l, 9+gone, min(gone, 63))
		holdState(t, l, 9-100+gone, min(gone, 63))
	}
}

// P11.2: cycles and slots that are as long as they may be, at their first and last nanoseconds.
func TestGreat(t *testing.T) {
	l := list(maxTime, mostCycle, 1, mostCycle-5, 2, 3)
	for _, base := range []int{maxTime, 0, 2*maxTime - mostCycle, -maxTime, -mostCycle} {
		holdState(t, l, base, 1)
		holdState(t, l, base+mostCycle-6, 1)
		holdState(t, l, base+mostCycle-5, 2)
		holdState(t, l, base+mostCycle-1, 2)
		holdLeft(t, l, base, 0, mostCycle-5)
		holdLeft(t, l, base+mostCycle-6, 0, 1)
		holdLeft(t, l, base+mostCycle-5, 0, 0)
		holdLeft(t, l, base+mostCycle-5, 1, 5)
		holdLeft(t, l, base+mostCycle-1, 1, 1)
		holdNext(t, l, base, 1, mostCycle-5)
		holdNext(t, l, base+mostCycle-6, 1, 1)
		holdNext(t, l, base+mostCycle-5, 1, 0)
		holdNext(t, l, base+mostCycle-5, 0, 5)
		holdNext(t, l, base+mostCycle-1, 0, 1)
		holdTurn(t, l, base, base)
		holdTurn(t, l, base+1, base+mostCycle)
		holdTurn(t, l, base+mostCycle-1, base+mostCycle)
	}
	// One slot that is open, and 2^30 - 1 nanoseconds in which the gate is closed, or the other way round.
	seldom := list(0, mostCycle, 1, 1, 2, mostCycle-1)
	holdLeft(t, seldom, 0, 0, 1)
	holdNext(t, seldom, 1, 0, mostCycle-1)
	holdLeft(t, seldom, 1, 1, mostCycle-1)
	holdNext(t, seldom, 0, 1, 1)
}

// P11.2: times from -MaxTime to 2 MaxTime, and those beyond.
func TestTimes(t *testing.T) {
	for _, base := range []int{0, 3, maxTime} {
		l := list(base, 10, 1, 3, 2, 4)
		for _, at := range []int{-maxTime, -maxTime + 1, -1, 0, 1, maxTime, maxTime + 1, 2*maxTime - 1, 2 * maxTime} {
			gone := ((at-base)%10 + 10) % 10
			holdState(t, l, at, map[bool]int{true: 1, false: 2}[gone < 3])
			holdTurn(t, l, at, at+(10-gone)%10)
			if gone < 3 {
				holdLeft(t, l, at, 0, 3-gone)
				holdLeft(t, l, at, 1, 0)
				holdNext(t, l, at, 0, 0)
				holdNext(t, l, at, 1, 3-gone)
			} else {
				holdLeft(t, l, at, 0, 0)
				holdLeft(t, l, at, 1, 10-gone)
				holdNext(t, l, at, 0, 10-gone)
				holdNext(t, l, at, 1, 0)
			}
		}
		for _, at := range []int{-maxTime - 1, -maxTime - 2, 2*maxTime + 1, 2*maxTime + 2, 1 << 62, -1 << 62, most, least, least + 1} {
			holdNothing(t, l, at)
			holdNothing(t, list(base, 10, 255, 10), at)
		}
	}
	// What is behind 2 MaxTime counts, though it isn't asked there.
	l := list(0, mostCycle-1, 1, 1, 2, 4)
	at := 2 * maxTime
	gone := at % (mostCycle - 1)
	holdTurn(t, l, at, at+mostCycle-1-gone)
	holdLeft(t, l, at, 1, mostCycle-1-gone)
	holdNext(t, l, at, 0, mostCycle-1-gone)
}

// P11.2: which gates there are.
func TestGates(t *testing.T) {
	l := list(0, 10, 255, 4, 0, 6)
	for gate := range 8 {
		holdLeft(t, l, 1, gate, 3)
		holdLeft(t, l, 4, gate, 0)
		holdNext(t, l, 1, gate, 0)
		holdNext(t, l, 4, gate, 6)
	}
	for _, gate := range []int{-1, 8, 9, 62, 63, 64, 65, -8, -64, 1 << 32, 1<<32 + 1, most, least} {
		for at := range 10 {
			holdLeft(t, l, at, gate, 0)
			holdNever(t, l, at, gate)
			holdLeft(t, list(0, 10, 255, 1), at, gate, 0)
			holdNever(t, list(0, 10, 0, 1), at, gate)
		}
	}
	// Each gate by its own bit.
	for gate := range 8 {
		l := list(0, 10, 1<<gate, 4, 255&^(1<<gate), 6)
		for other := range 8 {
			if other == gate {
				holdLeft(t, l, 1, other, 3)
				holdNext(t, l, 5, other, 5)
			} else {
				holdLeft(t, l, 1, other, 0)
				holdLeft(t, l, 5, other, 5)
				holdNext(t, l, 1, other, 3)
			}
		}
	}
}

// P11.2: a gate that is open in every slot, in none, and in one alone.
func TestAlways(t *testing.T) {
	for _, n := range []int{1, 2, 3, 64} {
		l := same(7, 100, n, 2, 1)
		for _, at := range []int{-maxTime, -1, 0, 6, 7, 8, 9, 70, 71, 106, 107, 2 * maxTime} {
			holdLeft(t, l, at, 1, always)
			holdNext(t, l, at, 1, 0)
			holdLeft(t, l, at, 0, 0)
			holdNever(t, l, at, 0)
		}
		if n == 1 {
			continue
		}
		for alone := range n {
			l := same(7, 100, n, 0, 1)
			l.Slots[alone].Open = 1
			long := 1
			if alone == n-1 {
				long = 100 - alone
			}
			holdLeft(t, l, 7+alone, 0, long)
			holdLeft(t, l, 7+alone+long-1, 0, 1)
			holdLeft(t, l, 7+alone+long, 0, 0)
			holdNext(t, l, 7+alone+long-1, 0, 0)
			holdNext(t, l, 7+alone+long, 0, 100-long)
			holdNext(t, l, 7+alone-1, 0, 1)
			holdNext(t, l, 7, 0, alone)

			for i := range l.Slots {
				l.Slots[i].Open ^= 1
			}
			holdNext(t, l, 7+alone, 0, long)
			holdNext(t, l, 7+alone+long, 0, 0)
			holdLeft(t, l, 7+alone, 0, 0)
			holdLeft(t, l, 7+alone+long, 0, 100-long)
			holdLeft(t, l, 7+alone-1, 0, 1)
		}
	}
}

// P11.2: slots that follow each other, in which a gate stays open or closed, also over the cycle's end.
func TestOverTheEnd(t *testing.T) {
	l := list(20, 20, 3, 2, 1, 3, 2, 4, 0, 1, 1, 2)
	for gone, want := range []struct{ left0, next0, left1, next1 int }{
		{5, 0, 2, 0}, {4, 0, 1, 0}, {3, 0, 0, 3}, {2, 0, 0, 2}, {1, 0, 0, 1},
		{0, 5, 4, 0}, {0, 4, 3, 0}, {0, 3, 2, 0}, {0, 2, 1, 0},
		{0, 1, 0, 11},
		{15, 0, 0, 10}, {14, 0, 0, 9}, {13, 0, 0, 8}, {12, 0, 0, 7}, {11, 0, 0, 6}, {10, 0, 0, 5}, {9, 0, 0, 4}, {8, 0, 0, 3}, {7, 0, 0, 2}, {6, 0, 0, 1},
	} {
		for round := -3; round <= 3; round++ {
			at := 20 + 20*round + gone
			holdLeft(t, l, at, 0, want.left0)
			holdNext(t, l, at, 0, want.next0)
			holdLeft(t, l, at, 1, want.left1)
			holdNext(t, l, at, 1, want.next1)
			holdNever(t, l, at, 2)
			holdLeft(t, l, at, 2, 0)
		}
	}
	// One closed nanosecond, and all others open: as long as a gate stays open that closes.
	almost := list(0, mostCycle, 1, 9, 0, 1, 1, 1)
	holdLeft(t, almost, 10, 0, mostCycle-1)
	holdLeft(t, almost, 9, 0, 0)
	holdNext(t, almost, 9, 0, 1)
	holdLeft(t, almost, mostCycle-1, 0, 10)
}

// P11.2: a cycle begins at Base, and each Cycle nanoseconds ahead of that and behind it.
func TestTurn(t *testing.T) {
	for _, x := range []struct{ base, cycle, at, want int }{
		{0, 10, 0, 0}, {0, 10, 1, 10}, {0, 10, 9, 10}, {0, 10, 10, 10}, {0, 10, 11, 20}, {0, 10, -1, 0}, {0, 10, -9, 0}, {0, 10, -10, -10}, {0, 10, -11, -10},
		{20, 10, 19, 20}, {20, 10, 20, 20}, {20, 10, 21, 30}, {20, 10, 0, 0}, {20, 10, 11, 20}, {20, 10, -5, 0}, {23, 10, 0, 3}, {23, 10, 4, 13}, {23, 10, -7, -7}, {23, 10, -8, -7},
		{5, 1, -3, -3}, {5, 1, 17, 17}, {maxTime, 7, 0, maxTime % 7}, {maxTime, 7, maxTime, maxTime}, {maxTime, 7, maxTime + 1, maxTime + 7},
		{maxTime, mostCycle, -maxTime, -maxTime}, {maxTime, mostCycle, 2 * maxTime, 2 * maxTime}, {1, mostCycle, 2 * maxTime, 2*maxTime + 1}, {mostCycle - 1, mostCycle, 2 * maxTime, 2*maxTime + mostCycle - 1}, {mostCycle - 1, mostCycle, -maxTime, -maxTime + mostCycle - 1},
	} {
		l := list(x.base, x.cycle, 1, 1)
		holdTurn(t, l, x.at, x.want)
		if x.want <= 2*maxTime {
			holdTurn(t, l, x.want, x.want)
		}
	}
}

// P11.2: a list that isn't right tells nothing, at any time.
func TestWrongTellsNothing(t *testing.T) {
	for _, x := range wrongLists() {
		for _, at := range []int{0, 1, 5, -1, maxTime, -maxTime, 2 * maxTime, most, least} {
			holdNothing(t, x.l, at)
		}
	}
}
