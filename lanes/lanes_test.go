package lanes_test

import (
	"math"
	"testing"

	"sandglass/api"
	"sandglass/lanes"
)

const (
	most     = math.MaxInt
	least    = math.MinInt
	maxRoom  = 1 << 12
	maxFrame = 1600
	classes  = 8
)

// all is an array that has one number in each place.
func all(x int) [classes]int { return [classes]int{x, x, x, x, x, x, x, x} }

// only is an array that has a number in one place, and noughts elsewhere.
func only(class, x int) [classes]int {
	var xs [classes]int
	xs[class] = x
	return xs
}

// frame is one that isn't dropped sooner.
func frame(id, size int) lanes.Item { return lanes.Item{Id: id, Size: size} }

// early is one that may be dropped sooner.
func early(id, size int) lanes.Item { return lanes.Item{Id: id, Size: size, Drop: true} }

// newLanes is one that must be there.
func newLanes(t *testing.T, rooms [classes]int) *lanes.Lanes {
	t.Helper()
	l, err := lanes.New(rooms)
	if err != api.OK || l == nil {
		t.Fatalf("New(%v) is there: %v, %d", rooms, l != nil, err)
	}
	return l
}

// told is what lanes tell of one class.
type told struct {
	head lanes.Item
	is   bool
	long int
	lost int
}

// tell is what lanes tell of all classes, and of two that aren't there.
func tell(l *lanes.Lanes) [classes + 2]told {
	var ts [classes + 2]told
	for i := range ts {
		x := &ts[i]
		x.head, x.is = l.Head(i - 1)
		x.long, x.lost = l.Len(i-1), l.Lost(i-1)
	}
	return ts
}

// holdPut holds a Put against its error, and Len, Lost and Head against what it changes.
func holdPut(t *testing.T, l *lanes.Lanes, class int, it lanes.Item, want api.Errno) {
	t.Helper()
	ts := tell(l)
	if err := l.Put(class, it); err != want {
		t.Errorf("Put(%d, %v) is %d, not %d", class, it, err, want)
	}
	switch want {
	case api.OK:
		x := &ts[class+1]
		if x.long == 0 {
			x.head, x.is = it, true
		}
		x.long++
	case api.ErrFull:
		ts[class+1].lost++
	}
	if got := tell(l); got != ts {
		t.Errorf("behind Put(%d, %v) %v is told, not %v", class, it, got, ts)
	}
}

// fill puts so many frames of one byte into a class, with Ids from 0 on.
func fill(t *testing.T, l *lanes.Lanes, class, n int) {
	t.Helper()
	for id := range n {
		holdPut(t, l, class, frame(id, 1), api.OK)
	}
}

// holdPick holds a Pick against what is picked, and that it waits no more, and nothing else is told otherwise.
func holdPick(t *testing.T, l *lanes.Lanes, left [classes]int, class int, it lanes.Item) {
	t.Helper()
	ts := tell(l)
	c, got, ok := l.Pick(left)
	if c != class || got != it || !ok {
		t.Errorf("Pick(%v) is %d, %v, %v, not %d, %v", left, c, got, ok, class, it)
	}
	x := &ts[class+1]
	x.long--
	x.head, x.is = l.Head(class)
	if x.is != (x.long > 0) {
		t.Errorf("Head(%d) is there: %v, with %d that wait", class, x.is, x.long)
	}
	if now := tell(l); now != ts {
		t.Errorf("behind Pick(%v) %v is told, not %v", left, now, ts)
	}
}

// holdNoPick holds a Pick against picking nothing, and that nothing changes.
func holdNoPick(t *testing.T, l *lanes.Lanes, left [classes]int) {
	t.Helper()
	ts := tell(l)
	if c, it, ok := l.Pick(left); c != 0 || it != (lanes.Item{}) || ok {
		t.Errorf("Pick(%v) is %d, %v, %v", left, c, it, ok)
	}
	if got := tell(l); got != ts {
		t.Errorf("behind Pick(%v) %v is told, not %v", left, got, ts)
	}
}

func holdHead(t *testing.T, l *lanes.Lanes, class int, want lanes.Item, is bool) {
	t.Helper()
	if it, ok := l.Head(class); it != want || ok != is {
		t.Errorf("Head(%d) is %v, %v, not %v, %v", class, it, ok, want, is)
	}
}

// holdClear holds a Clear against how many waited, and that what was lost stays.
func holdClear(t *testing.T, l *lanes.Lanes, want int) {
	t.Helper()
	ts := tell(l)
	if got := l.Clear(); got != want {
		t.Errorf("Clear is %d, not %d", got, want)
	}
	for i := range ts {
		ts[i] = told{lost: ts[i].lost}
	}
	if got := tell(l); got != ts {
		t.Errorf("behind Clear %v is told, not %v", got, ts)
	}
	holdNoPick(t, l, all(most))
}

// holdLong holds Len and Lost of a class.
func holdLong(t *testing.T, l *lanes.Lanes, class, long, lost int) {
	t.Helper()
	if got := l.Len(class); got != long {
		t.Errorf("Len(%d) is %d, not %d", class, got, long)
	}
	if got := l.Lost(class); got != lost {
		t.Errorf("Lost(%d) is %d, not %d", class, got, lost)
	}
}

// P15.1: a room at its ends and beyond, in each place; with wrong ones elsewhere, too.
func TestNew(t *testing.T) {
	for class := range classes {
		for _, others := range []int{0, 1, maxRoom} {
			for _, room := range []int{0, 1, 2, maxRoom - 1, maxRoom} {
				rooms := all(others)
				rooms[class] = room
				l := newLanes(t, rooms)
				if got := tell(l); got != ([classes + 2]told{}) {
					t.Errorf("new ones tell %v", got)
				}
				holdNoPick(t, l, all(most))
			}
			for _, room := range []int{-1, -2, maxRoom + 1, maxRoom + 2, 1 << 32, least, most} {
				rooms := all(others)
				rooms[class] = room
				if l, err := lanes.New(rooms); l != nil || err != api.ErrArg {
					t.Errorf("New(%v) is there: %v, %d", rooms, l != nil, err)
				}
			}
		}
	}
	for _, room := range []int{-1, maxRoom + 1, least, most} {
		if l, err := lanes.New(all(room)); l != nil || err != api.ErrArg {
			t.Errorf("New of %d everywhere is there: %v, %d", room, l != nil, err)
		}
	}
}

// P15.1: each class has the room that was said of it, none that of another one.
func TestRooms(t *testing.T) {
	rooms := [classes]int{3, 0, 1, 7, 4096, 2, 5, 4}
	l := newLanes(t, rooms)
	for class, room := range rooms {
		fill(t, l, class, room)
		holdPut(t, l, class, frame(9, 1), api.ErrFull)
	}
	for class, room := range rooms {
		holdLong(t, l, class, room, 1)
	}
	// The array stays the caller's.
	rooms[0] = 4
	holdPut(t, l, 0, frame(9, 1), api.ErrFull)
}

// P15.1: a Size at its ends and beyond, in each class; the room of a byte or of none is one frame's, too.
func TestSize(t *testing.T) {
	for class := range classes {
		l := newLanes(t, all(10))
		for _, size := range []int{0, 1, maxFrame - 1, maxFrame} {
			holdPut(t, l, class, frame(5, size), api.OK)
			holdPut(t, l, class, early(6, size), api.OK)
			holdPick(t, l, all(most), class, frame(5, size))
			holdPick(t, l, all(most), class, early(6, size))
		}
		for _, size := range []int{-1, -2, maxFrame + 1, maxFrame + 2, 1 << 32, least, most} {
			holdPut(t, l, class, frame(5, size), api.ErrArg)
			holdPut(t, l, class, early(5, size), api.ErrArg)
		}
		holdLong(t, l, class, 0, 0)
	}
}

// P15.1: any Id may wait, one that waits already, too.
func TestId(t *testing.T) {
	l := newLanes(t, all(10))
	ids := []int{0, -1, 7, 7, least, most}
	for _, id := range ids {
		holdPut(t, l, 4, frame(id, 64), api.OK)
	}
	for _, id := range ids {
		holdPick(t, l, all(512), 4, frame(id, 64))
	}
}

// P15.1: classes at their ends and beyond; which error comes first.
func TestClass(t *testing.T) {
	l := newLanes(t, all(1))
	for _, class := range []int{-1, -2, 8, 9, 256, 1 << 32, least, most} {
		holdPut(t, l, class, frame(1, 64), api.ErrPort)
		holdPut(t, l, class, early(1, 64), api.ErrPort)
		// A Size that isn't right stands ahead of a class that isn't there.
		holdPut(t, l, class, frame(1, -1), api.ErrArg)
		holdPut(t, l, class, frame(1, maxFrame+1), api.ErrArg)
		holdLong(t, l, class, 0, 0)
		holdHead(t, l, class, lanes.Item{}, false)
	}
	for class := range classes {
		holdPut(t, l, class, frame(class, 64), api.OK)
	}
	for class := range classes {
		// And ahead of a class that is full: it isn't lost.
		holdPut(t, l, class, frame(1, -1), api.ErrArg)
		holdPut(t, l, class, early(1, maxFrame+1), api.ErrArg)
		holdLong(t, l, class, 1, 0)
	}
	for class := range classes {
		holdPick(t, l, all(512), classes-1-class, frame(classes-1-class, 64))
	}
}

// P15.1: a class that is full, and one that is full but for one.
func TestFull(t *testing.T) {
	for _, room := range []int{0, 1, 2, 3, 10, maxRoom - 1, maxRoom} {
		for _, class := range []int{0, 3, 7} {
			l := newLanes(t, only(class, room))
			fill(t, l, class, room)
			for lost := range 3 {
				holdLong(t, l, class, room, lost)
				holdPut(t, l, class, frame(room, 1), api.ErrFull)
			}
			if room == 0 {
				holdNoPick(t, l, all(most))
				continue
			}
			// What was lost doesn't wait; behind a Pick there is room for one.
			holdPick(t, l, all(8), class, frame(0, 1))
			holdPut(t, l, class, frame(most, 1), api.OK)
			holdPut(t, l, class, frame(least, 1), api.ErrFull)
			for id := 1; id < room; id++ {
				holdPick(t, l, all(8), class, frame(id, 1))
			}
			holdPick(t, l, all(8), class, frame(most, 1))
			holdLong(t, l, class, 0, 4)
		}
	}
}

// P15.1: with Drop it is full where half as many wait as there is room: rooms that are even and odd, of 1 and of 0, each number that may wait.
func TestDrop(t *testing.T) {
	for room := range 12 {
		for waits := 0; waits <= room; waits++ {
			l := newLanes(t, only(2, room))
			fill(t, l, 2, waits)
			want := api.OK
			// Twice as many as wait aren't fewer than there is room.
			if waits+waits >= room {
				want = api.ErrFull
			}
			holdPut(t, l, 2, early(77, 1), want)
		}
	}
	for _, x := range []struct{ room, waits int }{{1, 0}, {2, 0}, {3, 1}, {4, 1}, {5, 2}, {6, 2}, {7, 3}, {maxRoom - 1, maxRoom/2 - 1}, {maxRoom, maxRoom/2 - 1}} {
		l := newLanes(t, only(6, x.room))
		fill(t, l, 6, x.waits)
		holdPut(t, l, 6, early(77, 1), api.OK)
		// Now one more waits than may: those that aren't dropped sooner have the rest of the room.
		holdPut(t, l, 6, early(78, 1), api.ErrFull)
		for id := x.waits + 1; id < x.room; id++ {
			holdPut(t, l, 6, frame(id, 1), api.OK)
			holdPut(t, l, 6, early(78, 1), api.ErrFull)
		}
		holdPut(t, l, 6, frame(0, 1), api.ErrFull)
		holdLong(t, l, 6, x.room, x.room-x.waits+1)
	}
	l := newLanes(t, all(0))
	holdPut(t, l, 0, early(1, 0), api.ErrFull)
	holdPut(t, l, 0, frame(1, 0), api.ErrFull)
	holdLong(t, l, 0, 0, 2)
}

// P15.1: those that may be dropped sooner take room as the others do, and wait in the same row.
func TestDropTakesRoom(t *testing.T) {
	l := newLanes(t, all(5))
	holdPut(t, l, 1, early(0, 1), api.OK)
	holdPut(t, l, 1, early(1, 1), api.OK)
	holdPut(t, l, 1, early(2, 1), api.OK)
	holdPut(t, l, 1, early(3, 1), api.ErrFull)
	holdPut(t, l, 1, frame(4, 1), api.OK)
	holdPut(t, l, 1, frame(5, 1), api.OK)
	holdPut(t, l, 1, frame(6, 1), api.ErrFull)
	holdPick(t, l, all(8), 1, early(0, 1))
	holdPick(t, l, all(8), 1, early(1, 1))
	// Three wait of a room of five: more than half.
	holdPut(t, l, 1, early(7, 1), api.ErrFull)
	holdPick(t, l, all(8), 1, early(2, 1))
	holdPut(t, l, 1, early(8, 1), api.OK)
	holdPick(t, l, all(8), 1, frame(4, 1))
	holdPick(t, l, all(8), 1, frame(5, 1))
	holdPick(t, l, all(8), 1, early(8, 1))
	holdLong(t, l, 1, 0, 3)
}

// P15.1, P15.2: what is lost is counted by its own class alone, and stays behind Pick and Clear.
func TestLost(t *testing.T) {
	l := newLanes(t, [classes]int{1, 1, 1, 1, 1, 1, 1, 0})
	// So many frames each as the class's number: one waits, but in class 7, which has no room.
	for class := range classes {
		for i := range class {
			err := api.ErrFull
			if i == 0 && class < 7 {
				err = api.OK
			}
			holdPut(t, l, class, early(1, 2), err)
		}
	}
	want := [classes]int{0, 0, 1, 2, 3, 4, 5, 7}
	for class, lost := range want {
		holdLong(t, l, class, class-lost, lost)
	}
	holdPick(t, l, all(16), 6, early(1, 2))
	holdClear(t, l, 5)
	for class, lost := range want {
		holdLong(t, l, class, 0, lost)
	}
	holdPut(t, l, 3, early(1, 2), api.OK)
	holdPut(t, l, 3, early(1, 2), api.ErrFull)
	holdLong(t, l, 3, 1, 3)
}

// P15.1, P15.2: nil lanes.
func TestNil(t *testing.T) {
	var l *lanes.Lanes
	for _, class := range []int{-1, 0, 3, 7, 8, least, most} {
		for _, size := range []int{-1, 0, 64, maxFrame, maxFrame + 1} {
			holdPut(t, l, class, frame(1, size), api.ErrArg)
			holdPut(t, l, class, early(1, size), api.ErrArg)
		}
		holdHead(t, l, class, lanes.Item{}, false)
		holdLong(t, l, class, 0, 0)
	}
	holdNoPick(t, l, all(most))
	holdNoPick(t, l, all(0))
	holdClear(t, l, 0)
	holdClear(t, l, 0)
}

// P15.1: two of them never meet.
func TestTwo(t *testing.T) {
	a, b := newLanes(t, all(2)), newLanes(t, all(4))
	fill(t, a, 3, 2)
	holdLong(t, b, 3, 0, 0)
	holdPut(t, a, 3, frame(9, 1), api.ErrFull)
	fill(t, b, 3, 4)
	holdPick(t, a, all(8), 3, frame(0, 1))
	holdClear(t, b, 4)
	holdPick(t, a, all(8), 3, frame(1, 1))
	holdLong(t, a, 3, 0, 1)
	holdLong(t, b, 3, 0, 0)
}
