package gates_test

import (
	"math"
	"slices"
	"testing"

	"sandglass/api"
	"sandglass/gates"
)

const (
	most      = math.MaxInt
	least     = math.MinInt
	maxTime   = 1 << 40
	mostCycle = 1 << 30
	always    = 1 << 31
)

// list is a list of slots that are handed in two by two: what is open, and for how long.
func list(base, cycle int, slots ...int) gates.List {
	l := gates.List{Base: base, Cycle: cycle}
	for i := 0; i < len(slots); i += 2 {
		l.Slots = append(l.Slots, gates.Slot{Open: slots[i], Len: slots[i+1]})
	}
	return l
}

// same is a list of n slots that are all open alike and last alike.
func same(base, cycle, n, open, long int) gates.List {
	l := gates.List{Base: base, Cycle: cycle}
	for range n {
		l.Slots = append(l.Slots, gates.Slot{Open: open, Len: long})
	}
	return l
}

// equal tells whether two lists are one to who reads them.
func equal(a, b gates.List) bool {
	return a.Base == b.Base && a.Cycle == b.Cycle && slices.Equal(a.Slots, b.Slots)
}

// clone is a list in memory of its own.
func clone(l gates.List) gates.List {
	l.Slots = slices.Clone(l.Slots)
	return l
}

// holdCheck holds a Check against its error.
func holdCheck(t *testing.T, l gates.List, want api.Errno) {
	t.Helper()
	if err := l.Check(); err != want {
		t.Errorf("Check of %v is %d, not %d", l, err, want)
	}
}

// wrongNumbers are numbers that neither a base nor a length is, and no set of gates.
func wrongNumbers() []int {
	return []int{-1, -2, least, most, 1 << 62, maxTime + 1, 1<<41 + 5, -1 << 32}
}

// wrongLists are lists each of which isn't right, with what Check is of them.
func wrongLists() []struct {
	l    gates.List
	want api.Errno
} {
	return []struct {
		l    gates.List
		want api.Errno
	}{
		{gates.List{}, api.ErrArg},
		{list(0, 10), api.ErrArg},
		{list(0, 0, 1, 1), api.ErrArg},
		{list(0, -10, 1, 1), api.ErrArg},
		{list(0, mostCycle+1, 1, 1), api.ErrArg},
		{list(-1, 10, 1, 1), api.ErrArg},
		{list(maxTime+1, 10, 1, 1), api.ErrArg},
		{list(0, 10, -1, 1), api.ErrArg},
		{list(0, 10, 256, 1), api.ErrArg},
		{list(0, 10, 1, 0), api.ErrArg},
		{list(0, 10, 255, 5, 1, -5), api.ErrArg},
		{list(0, 10, 1, mostCycle+1), api.ErrArg},
		{list(0, 10, 255, 11), api.ErrSlot},
		{list(0, 10, 255, 5, 255, 6), api.ErrSlot},
		{same(0, 1000, 65, 255, 1), api.ErrMany},
	}
}

// P11.1: how many slots there may be, and that too many come ahead of all else.
func TestMany(t *testing.T) {
	for _, n := range []int{1, 2, 63, 64} {
		holdCheck(t, same(0, 1000, n, 255, 1), api.OK)
		holdCheck(t, same(0, n, n, 0, 1), api.OK)
	}
	holdCheck(t, same(0, 1000, 0, 0, 0), api.ErrArg)
	holdCheck(t, gates.List{Base: 5, Cycle: 10, Slots: []gates.Slot{}}, api.ErrArg)
	holdCheck(t, gates.List{}, api.ErrArg)
	for _, n := range []int{65, 66, 128, 1000, 1 << 16} {
		holdCheck(t, same(0, 1<<20, n, 255, 1), api.ErrMany)
		holdCheck(t, same(-1, 0, n, 256, 0), api.ErrMany)
		holdCheck(t, same(0, 10, n, 1, 1), api.ErrMany)
	}
	if gates.Most != 64 || gates.MostCycle != mostCycle || gates.Always != always {
		t.Error("the limits are", gates.Most, gates.MostCycle, gates.Always)
	}
}

// P11.1: how long a cycle may be.
func TestCycle(t *testing.T) {
	for _, cycle := range []int{1, 2, 1000, mostCycle - 1, mostCycle} {
		holdCheck(t, list(0, cycle, 1, 1), api.OK)
		holdCheck(t, list(0, cycle, 1, cycle), api.OK)
	}
	for _, cycle := range append(wrongNumbers(), 0, mostCycle+1, mostCycle+2, 1<<31, 1<<32, 1<<32+10) {
		holdCheck(t, list(0, cycle, 1, 1), api.ErrArg)
		holdCheck(t, list(0, cycle, 1, 2, 1, 2), api.ErrArg)
	}
}

// P11.1: which bases there are.
func TestBase(t *testing.T) {
	for _, base := range []int{0, 1, 9, 10, 11, maxTime - 1, maxTime} {
		holdCheck(t, list(base, 10, 1, 1), api.OK)
	}
	for _, base := range wrongNumbers() {
		holdCheck(t, list(base, 10, 1, 1), api.ErrArg)
		// A slot that is too long is asked for behind that.
		holdCheck(t, list(base, 10, 1, 11), api.ErrArg)
	}
}

// P11.1: which sets of gates a slot may have open, be it the first, one between, or the last.
func TestOpen(t *testing.T) {
	for at := range 3 {
		for open := range 256 {
			l := list(0, 10, 0, 1, 255, 1, 7, 1)
			l.Slots[at].Open = open
			holdCheck(t, l, api.OK)
		}
		for _, open := range append(wrongNumbers(), 256, 257, 511, 1<<16, 1<<32, 1<<32+1) {
			l := list(0, 10, 0, 1, 255, 1, 7, 1)
			l.Slots[at].Open = open
			holdCheck(t, l, api.ErrArg)
		}
	}
}

// P11.1: how long a slot may be, be it the first, one between, or the last.
func TestLen(t *testing.T) {
	for at := range 3 {
		for _, long := range []int{1, 2, 1000, mostCycle - 3, mostCycle - 2} {
			l := list(0, mostCycle, 0, 1, 255, 1, 7, 1)
			l.Slots[at].Len = long
			holdCheck(t, l, api.OK)
		}
		for _, long := range []int{mostCycle - 1, mostCycle} {
			l := list(0, mostCycle, 0, 1, 255, 1, 7, 1)
			l.Slots[at].Len = long
			holdCheck(t, l, api.ErrSlot)
		}
		for _, long := range append(wrongNumbers(), 0, mostCycle+1, mostCycle+2, 1<<32, 1<<32+1) {
			l := list(0, mostCycle, 0, 1, 255, 1, 7, 1)
			l.Slots[at].Len = long
			holdCheck(t, l, api.ErrArg)
		}
	}
	holdCheck(t, list(0, mostCycle, 0, mostCycle), api.OK)
}

// P11.1: slots that are just as long as the cycle, and one nanosecond longer.
func TestSlotsAndCycle(t *testing.T) {
	for _, n := range []int{1, 2, 3, 64} {
		for _, long := range []int{1, 2, 1000, mostCycle / 64} {
			all := n * long
			holdCheck(t, same(0, all, n, 255, long), api.OK)
			holdCheck(t, same(0, min(all+1, mostCycle), n, 255, long), api.OK)
			if all > 1 {
				holdCheck(t, same(0, all-1, n, 255, long), api.ErrSlot)
			}
			for at := range n {
				l := same(0, all, n, 255, long)
				l.Slots[at].Len++
				holdCheck(t, l, api.ErrSlot)
			}
		}
	}
	holdCheck(t, same(0, mostCycle, 64, 255, mostCycle), api.ErrSlot)
	holdCheck(t, same(0, 1, 64, 255, mostCycle), api.ErrSlot)
	holdCheck(t, list(0, 1, 255, 1), api.OK)
	holdCheck(t, list(0, 1, 255, 2), api.ErrSlot)
}

// P11.1: what is wrong with an early slot is told, not what is with a later one; of one slot ErrArg comes first.
func TestSlotBySlot(t *testing.T) {
	for _, x := range []struct {
		l    gates.List
		want api.Errno
	}{
		{list(0, 10, 1, 11, 256, 1), api.ErrSlot},
		{list(0, 10, 1, 11, 1, 0), api.ErrSlot},
		{list(0, 10, 256, 1, 1, 11), api.ErrArg},
		{list(0, 10, 1, 0, 1, 11), api.ErrArg},
		{list(0, 10, 1, 5, 1, 6, 256, 1), api.ErrSlot},
		{list(0, 10, 1, 5, 256, 1, 1, 6), api.ErrArg},
		{list(0, 10, 1, 5, 1, 5, 1, 1, 1, -1), api.ErrSlot},
		{list(0, 10, 1, 5, 1, 5, 1, -1, 1, 1), api.ErrArg},
		{list(0, 10, 256, 11), api.ErrArg},
		{list(0, 10, -1, 11, 1, 1), api.ErrArg},
		{list(0, 10, 1, 10, 256, 1), api.ErrArg},
		{list(0, 10, 1, 10, 1, mostCycle+1), api.ErrArg},
		// Once they are too long they don't get shorter by a length below 0.
		{list(0, 10, 1, 12, 1, -5), api.ErrSlot},
		{list(0, 10, 1, -5, 1, 12), api.ErrArg},
	} {
		holdCheck(t, x.l, x.want)
	}
	for at := range 64 {
		l := same(0, 64, 64, 1, 1)
		l.Slots[at].Open = 256
		holdCheck(t, l, api.ErrArg)
		if at > 0 {
			l.Slots[at-1].Len = 64
			holdCheck(t, l, map[bool]api.Errno{true: api.ErrSlot, false: api.ErrArg}[at > 1])
		}
		if at < 63 {
			l = same(0, 64, 64, 1, 1)
			l.Slots[at].Open, l.Slots[at+1].Len = -1, 65
			holdCheck(t, l, api.ErrArg)
		}
	}
}

// P11.1: the lists that the other tests take for wrong ones are so.
func TestWrongLists(t *testing.T) {
	for _, x := range wrongLists() {
		was := clone(x.l)
		holdCheck(t, x.l, x.want)
		if !equal(x.l, was) {
			t.Errorf("Check of %v has changed it to %v", was, x.l)
		}
	}
}
