package port_test

import (
	"math"
	"slices"
	"testing"

	"sandglass/api"
	"sandglass/gates"
	"sandglass/lanes"
	"sandglass/port"
)

const (
	most      = math.MaxInt
	least     = math.MinInt
	maxTime   = 1 << 40
	maxRoom   = 1 << 12
	maxFrame  = 1600
	mostCycle = 1 << 30
	classes   = 8
)

// list is a list of slots that are handed in two by two: what is open, and for how long.
func list(base, cycle int, slots ...int) gates.List {
	l := gates.List{Base: base, Cycle: cycle}
	for i := 0; i < len(slots); i += 2 {
		l.Slots = append(l.Slots, gates.Slot{Open: slots[i], Len: slots[i+1]})
	}
	return l
}

// ever is a list whose gates are always as one set says.
func ever(open int) gates.List { return list(0, 1, open, 1) }

// manySlots is a list of n slots, each a nanosecond long.
func manySlots(n int) gates.List {
	l := gates.List{Cycle: 1000}
	for range n {
		l.Slots = append(l.Slots, gates.Slot{Open: 255, Len: 1})
	}
	return l
}

// clone is a list in memory of its own.
func clone(l gates.List) gates.List {
	l.Slots = slices.Clone(l.Slots)
	return l
}

// scribble writes over a list's slots, and what is behind them.
func scribble(l gates.List) {
	slots := l.Slots[:cap(l.Slots)]
	for i := range slots {
		slots[i] = gates.Slot{Open: 170, Len: 3}
	}
}

// wrongLists are lists each of which isn't right, with what layer 11's Check is of them.
func wrongLists() []struct {
	l    gates.List
	want api.Errno
} {
	return []struct {
		l    gates.List
		want api.Errno
	}{
		{gates.List{}, api.ErrArg},
		{list(0, 0, 1, 1), api.ErrArg},
		{list(0, mostCycle+1, 1, 1), api.ErrArg},
		{list(-1, 10, 1, 1), api.ErrArg},
		{list(maxTime+1, 10, 1, 1), api.ErrArg},
		{list(0, 10, -1, 1), api.ErrArg},
		{list(0, 10, 256, 1), api.ErrArg},
		{list(0, 10, 1, 0), api.ErrArg},
		{list(0, 10, 255, 11), api.ErrSlot},
		{list(0, 10, 255, 5, 255, 6), api.ErrSlot},
		{manySlots(65), api.ErrMany},
	}
}

// all is an array that has one number in each place.
func all(x int) [classes]int { return [classes]int{x, x, x, x, x, x, x, x} }

// frame is one that isn't dropped sooner.
func frame(id, size int) lanes.Item { return lanes.Item{Id: id, Size: size} }

// early is one that may be dropped sooner.
func early(id, size int) lanes.Item { return lanes.Item{Id: id, Size: size, Drop: true} }

// newPort is one that must be there.
func newPort(t *testing.T, l gates.List, rooms [classes]int) *port.Port {
	t.Helper()
	p, err := port.New(l, rooms)
	if err != api.OK || p == nil {
		t.Fatalf("New(%v, %v) is there: %v, %d", l, rooms, p != nil, err)
	}
	return p
}

// long is how many wait and were lost of each class, and of two that aren't there.
func long(p *port.Port) [classes + 2][2]int {
	var xs [classes + 2][2]int
	for i := range xs {
		xs[i] = [2]int{p.Len(i - 1), p.Lost(i - 1)}
	}
	return xs
}

// holdLong holds Len and Lost of a class against how many.
func holdLong(t *testing.T, p *port.Port, class, wait, lost int) {
	t.Helper()
	if got := p.Len(class); got != wait {
		t.Errorf("Len(%d) is %d, not %d", class, got, wait)
	}
	if got := p.Lost(class); got != lost {
		t.Errorf("Lost(%d) is %d, not %d", class, got, lost)
	}
}

// holdPut holds a Put against its error, and Len and Lost against what it changes.
func holdPut(t *testing.T, p *port.Port, class int, it lanes.Item, want api.Errno) {
	t.Helper()
	xs := long(p)
	if err := p.Put(class, it); err != want {
		t.Errorf("Put(%d, %v) is %d, not %d", class, it, err, want)
	}
	switch want {
	case api.OK:
		xs[class+1][0]++
	case api.ErrFull:
		xs[class+1][1]++
	}
	if got := long(p); got != xs {
		t.Errorf("behind Put(%d, %v) %v wait and were lost, not %v", class, it, got, xs)
	}
}

// holdNext holds a Next against the frame and its class, and that just it waits no more.
func holdNext(t *testing.T, p *port.Port, now, class int, it lanes.Item) {
	t.Helper()
	xs := long(p)
	got, c, ok := p.Next(now)
	if got != it || c != class || !ok {
		t.Errorf("Next(%d) is %v, %d, %v, not %v, %d", now, got, c, ok, it, class)
	}
	xs[class+1][0]--
	if got := long(p); got != xs {
		t.Errorf("behind Next(%d) %v wait and were lost, not %v", now, got, xs)
	}
}

// holdNoNext holds a Next against that it has no frame, and that all wait on.
func holdNoNext(t *testing.T, p *port.Port, now int) {
	t.Helper()
	xs := long(p)
	if it, class, ok := p.Next(now); it != (lanes.Item{}) || class != 0 || ok {
		t.Errorf("Next(%d) is %v, %d, %v", now, it, class, ok)
	}
	if got := long(p); got != xs {
		t.Errorf("behind Next(%d) %v wait and were lost, not %v", now, got, xs)
	}
}

// holdWhen holds a When against its time, twice, and that all wait on.
func holdWhen(t *testing.T, p *port.Port, now, want int) {
	t.Helper()
	xs := long(p)
	for range 2 {
		if at, ok := p.When(now); at != want || !ok {
			t.Errorf("When(%d) is %d, %v, not %d", now, at, ok, want)
		}
	}
	if got := long(p); got != xs {
		t.Errorf("behind When(%d) %v wait and were lost, not %v", now, got, xs)
	}
}

// holdNever holds a When against that it tells no time.
func holdNever(t *testing.T, p *port.Port, now int) {
	t.Helper()
	xs := long(p)
	if at, ok := p.When(now); at != 0 || ok {
		t.Errorf("When(%d) is %d, %v", now, at, ok)
	}
	if got := long(p); got != xs {
		t.Errorf("behind When(%d) %v wait and were lost, not %v", now, got, xs)
	}
}

// holdChange holds a Change against its error, and that all wait on.
func holdChange(t *testing.T, p *port.Port, l gates.List, now int, want api.Errno) {
	t.Helper()
	xs := long(p)
	if err := p.Change(l, now); err != want {
		t.Errorf("Change(%v, %d) is %d, not %d", l, now, err, want)
	}
	if got := long(p); got != xs {
		t.Errorf("behind Change(%v, %d) %v wait and were lost, not %v", l, now, got, xs)
	}
}

// holdClear holds a Clear against how many waited, and that what was lost stays.
func holdClear(t *testing.T, p *port.Port, want int) {
	t.Helper()
	xs := long(p)
	if got := p.Clear(); got != want {
		t.Errorf("Clear is %d, not %d", got, want)
	}
	for i := range xs {
		xs[i][0] = 0
	}
	if got := long(p); got != xs {
		t.Errorf("behind Clear %v wait and were lost, not %v", got, xs)
	}
}

// holdState holds a port at which nothing waits against which gates are open for a nanosecond at least at a time; the times that are asked go on.
func holdState(t *testing.T, p *port.Port, now, want int) {
	t.Helper()
	got := 0
	for class := range classes {
		p.Put(class, frame(0, 1))
		if _, c, ok := p.Next(now); ok {
			got |= 1 << c
		}
		p.Clear()
	}
	if got != want {
		t.Errorf("at %d %d are open for 8 ns, not %d", now, got, want)
	}
}

// P16.1: the list's error, whatever the rooms are; then that of the rooms; then a port at which nothing waits.
func TestNew(t *testing.T) {
	wrong := []int{-1, maxRoom + 1, most, least, 1 << 32, -1 << 32}
	for _, x := range wrongLists() {
		for _, room := range append([]int{0, 1, maxRoom}, wrong...) {
			if p, err := port.New(clone(x.l), all(room)); p != nil || err != x.want {
				t.Errorf("New(%v, all %d) is there: %v, %d, not %d", x.l, room, p != nil, err, x.want)
			}
		}
	}
	for class := range classes {
		for _, room := range wrong {
			rooms := all(1)
			rooms[class] = room
			if p, err := port.New(ever(255), rooms); p != nil || err != api.ErrArg {
				t.Errorf("New with rooms %v is there: %v, %d", rooms, p != nil, err)
			}
		}
	}
	for _, l := range []gates.List{ever(0), ever(255), manySlots(64), list(maxTime, mostCycle, 1, mostCycle)} {
		for _, room := range []int{0, 1, maxRoom} {
			p := newPort(t, l, all(room))
			for class := -1; class <= classes; class++ {
				holdLong(t, p, class, 0, 0)
			}
			for _, now := range []int{0, 1, maxTime} {
				holdNever(t, p, now)
				holdNoNext(t, p, now)
			}
			holdClear(t, p, 0)
		}
	}
}

// P16.1: the gates do what the list says, and each is that of its own class.
func TestGatesOfList(t *testing.T) {
	p := newPort(t, list(20, 100, 1, 10, 2, 10, 4, 10, 8, 10, 16, 10, 32, 10, 64, 10, 128, 10, 165, 10, 90, 10), all(2))
	for i, open := range []int{1, 2, 4, 8, 16, 32, 64, 128, 165, 90} {
		for _, begin := range []int{20 + 10*i, 1020 + 10*i} {
			holdState(t, p, begin, open)
			holdState(t, p, begin+2, open)
		}
	}
	// Ahead of the base it does so, too.
	p = newPort(t, list(250, 100, 3, 30, 64, 70), all(1))
	for _, round := range []int{0, 100, 200, 300} {
		holdState(t, p, round+50, 3)
		holdState(t, p, round+72, 3)
		holdState(t, p, round+80, 64)
		holdState(t, p, round+142, 64)
	}
	// A list may have as many slots as layer 11 lets it have.
	l := gates.List{Cycle: 64 * 8}
	for i := range 64 {
		l.Slots = append(l.Slots, gates.Slot{Open: 1 << (i % 8), Len: 8})
	}
	p = newPort(t, l, all(1))
	for i := range 64 {
		holdState(t, p, 8*i, 1<<(i%8))
	}
}

// P16.1: the room of each class is its own; one with Drop has half of it.
func TestRooms(t *testing.T) {
	p := newPort(t, ever(0), [classes]int{0, 1, 2, 3, 4, 5, 6, 7})
	for room := range classes {
		for id := range room {
			holdPut(t, p, room, frame(id, 64), api.OK)
		}
		holdPut(t, p, room, frame(9, 64), api.ErrFull)
		holdPut(t, p, room, early(9, 64), api.ErrFull)
		holdLong(t, p, room, room, 2)
	}
	holdClear(t, p, 28)
	holdClear(t, p, 0)
	for room := range classes {
		for id := range (room + 1) / 2 {
			holdPut(t, p, room, early(id, 64), api.OK)
		}
		holdPut(t, p, room, early(9, 64), api.ErrFull)
		if room > 1 {
			holdPut(t, p, room, frame(9, 64), api.OK)
		}
	}
	full := newPort(t, ever(255), all(maxRoom))
	for id := range maxRoom {
		if err := full.Put(7, frame(id, 1)); err != api.OK {
			t.Fatalf("Put of number %d is %d", id, err)
		}
	}
	holdPut(t, full, 7, frame(0, 1), api.ErrFull)
	holdNext(t, full, 0, 7, frame(0, 1))
	holdPut(t, full, 7, frame(0, 1), api.OK)
	holdClear(t, full, maxRoom)
}

// P16.1: Put of sizes and classes that are right, and of others; what waits goes out as it was put in, in its order.
func TestPut(t *testing.T) {
	for _, class := range []int{0, 3, 7} {
		p := newPort(t, ever(255), all(10))
		var its []lanes.Item
		for i, size := range []int{0, 1, 64, maxFrame - 1, maxFrame} {
			its = append(its, frame(i-2, size))
			if i < 4 {
				its = append(its, early(most-i, size))
			}
		}
		for i, it := range its {
			want := api.OK
			if it.Drop && i >= 5 {
				want = api.ErrFull
			}
			holdPut(t, p, class, it, want)
		}
		for _, size := range []int{-1, maxFrame + 1, most, least} {
			for _, c := range []int{class, -1, classes} {
				holdPut(t, p, c, frame(1, size), api.ErrArg)
				holdPut(t, p, c, early(1, size), api.ErrArg)
			}
		}
		for _, c := range []int{-1, -2, classes, classes + 1, least, most, 1 << 32} {
			holdPut(t, p, c, frame(1, 64), api.ErrPort)
			holdPut(t, p, c, early(1, maxFrame), api.ErrPort)
			holdLong(t, p, c, 0, 0)
		}
		for i, it := range its {
			if !it.Drop || i < 5 {
				holdNext(t, p, 0, class, it)
			}
		}
		holdNoNext(t, p, 0)
		holdLong(t, p, class, 0, 2)
	}
}

// P16.1: two ports never meet.
func TestTwoPorts(t *testing.T) {
	l := list(0, 100, 1, 50, 2, 50)
	a, b := newPort(t, l, all(1)), newPort(t, l, all(1))
	holdPut(t, a, 1, frame(1, 1), api.OK)
	holdPut(t, a, 1, frame(2, 1), api.ErrFull)
	holdChange(t, a, ever(255), 0, api.OK)
	for class := range classes {
		holdLong(t, b, class, 0, 0)
	}
	holdNoNext(t, b, 60)
	holdState(t, b, 0, 1)
	holdState(t, b, 60, 2)
	holdNext(t, a, 0, 1, frame(1, 1))
	holdState(t, a, 1, 255)
}

// P16.1: what is handed in is neither changed nor kept, the room behind its end included.
func TestLists(t *testing.T) {
	first, second := list(0, 200, 1, 100, 2, 100), list(0, 100, 4, 50, 8, 50)
	room := make([]gates.Slot, 9)
	copy(room[2:], second.Slots)
	handed := gates.List{Cycle: 100, Slots: room[2:4:9]}
	was := slices.Clone(room)

	l := clone(first)
	p := newPort(t, l, all(1))
	scribble(l)
	holdState(t, p, 0, 1)
	holdState(t, p, 100, 2)
	holdChange(t, p, handed, 110, api.OK)
	if !slices.Equal(room, was) {
		t.Errorf("Change has written %v over %v", room, was)
	}
	scribble(handed)
	holdState(t, p, 120, 2)
	was = slices.Clone(room)
	holdState(t, p, 200, 4)
	holdState(t, p, 250, 8)
	if !slices.Equal(room, was) {
		t.Errorf("the port has written %v over %v", room, was)
	}
}

// P16.1: a list that isn't right, or a time that isn't, is refused with layer 11's error, and changes nothing.
func TestChangeWrong(t *testing.T) {
	times := []int{-1, -2, maxTime + 1, maxTime + 2, least, most}
	for _, x := range wrongLists() {
		p := newPort(t, list(0, 100, 1, 50, 2, 50), all(1))
		for _, now := range append([]int{0, 40, 1000, maxTime}, times...) {
			holdChange(t, p, clone(x.l), now, x.want)
			holdState(t, p, 0, 1)
			holdState(t, p, 60, 2)
		}
		// Another one that is to come is to come on.
		holdChange(t, p, list(500, 100, 4, 100), 70, api.OK)
		for _, now := range append([]int{70, 600, maxTime}, times...) {
			holdChange(t, p, clone(x.l), now, x.want)
		}
		holdState(t, p, 400, 1)
		holdPut(t, p, 7, frame(1, 1), api.OK)
		holdWhen(t, p, 400, 500)
		holdClear(t, p, 1)
		holdState(t, p, 492, 2)
		holdState(t, p, 500, 4)
	}
	for _, now := range times {
		p := newPort(t, ever(1), all(1))
		holdChange(t, p, ever(2), now, api.ErrArg)
		holdState(t, p, 0, 1)
		holdChange(t, p, list(30, 50, 4, 50), 0, api.OK)
		holdChange(t, p, ever(2), now, api.ErrArg)
		holdState(t, p, 0, 1)
		holdState(t, p, 30, 4)
		holdState(t, p, 90, 4)
	}
	for _, now := range []int{0, 1, maxTime - 8, maxTime} {
		p := newPort(t, ever(1), all(1))
		holdChange(t, p, ever(2), now, api.OK)
		holdState(t, p, now, 2)
	}
}

// P16.1: a list holds from the first of its cycles on that begins at now or later, but not ahead of its base.
func TestChangeFrom(t *testing.T) {
	for _, x := range []struct{ base, cycle, now, from int }{
		{0, 100, 0, 0}, {0, 100, 1, 100}, {0, 100, 99, 100}, {0, 100, 100, 100}, {0, 100, 101, 200},
		{50, 100, 0, 50}, {50, 100, 50, 50}, {50, 100, 51, 150}, {990, 100, 0, 990}, {990, 100, 90, 990}, {995, 100, 1000, 1095},
		{maxTime, 7, maxTime - 100, maxTime}, {0, mostCycle, 1, mostCycle}, {0, mostCycle, maxTime, maxTime}, {1, mostCycle, maxTime - mostCycle - 3, maxTime - mostCycle + 1},
	} {
		p := newPort(t, ever(3), all(2))
		holdChange(t, p, list(x.base, x.cycle, 5, x.cycle), x.now, api.OK)
		if x.from > x.now {
			// Behind 7 ns a frame of a byte isn't out by then; one of no bytes is.
			for _, ahead := range []int{7, 1} {
				if x.from-ahead >= x.now {
					holdState(t, p, x.from-ahead, 0)
				}
			}
			if x.from-8 >= x.now {
				holdState(t, p, x.from-8, 3)
			}
			holdPut(t, p, 7, frame(1, 1), api.OK)
			holdWhen(t, p, x.now, x.from)
			holdWhen(t, p, x.from-1, x.from)
			holdClear(t, p, 1)
		}
		holdState(t, p, x.from, 5)
		holdPut(t, p, 7, frame(1, 1), api.OK)
		holdNever(t, p, x.from)
		holdClear(t, p, 1)
	}
}

// P16.1: of two Changes in a row the second one takes the first one's place, unless that one's time had come.
func TestTwoChanges(t *testing.T) {
	first, second := list(300, 100, 2, 100), list(0, 200, 4, 200)
	for _, x := range []struct {
		now    int
		states [5]int // at 0, 200, 300, 400 and 600, those ahead of now left out
	}{
		{0, [5]int{4, 4, 4, 4, 4}}, {150, [5]int{0, 4, 4, 4, 4}}, {200, [5]int{0, 4, 4, 4, 4}}, {250, [5]int{0, 0, 1, 4, 4}}, {299, [5]int{0, 0, 1, 4, 4}},
		{300, [5]int{0, 0, 2, 4, 4}}, {380, [5]int{0, 0, 0, 4, 4}}, {400, [5]int{0, 0, 0, 4, 4}}, {450, [5]int{0, 0, 0, 0, 4}},
	} {
		p := newPort(t, ever(1), all(1))
		holdChange(t, p, first, 0, api.OK)
		holdChange(t, p, second, x.now, api.OK)
		for i, at := range []int{0, 200, 300, 400, 600} {
			if at >= x.now {
				holdState(t, p, at, x.states[i])
			}
		}
	}
	// Behind 450 the first one's time had come, so it holds until the second one does.
	p := newPort(t, ever(1), all(1))
	holdChange(t, p, first, 0, api.OK)
	holdChange(t, p, second, 450, api.OK)
	holdState(t, p, 460, 2)
	holdState(t, p, 592, 2)
	holdState(t, p, 593, 0)
	holdState(t, p, 600, 4)
}

// P16.1: Clear takes all away, of each class, and leaves the gates as they are.
func TestClear(t *testing.T) {
	p := newPort(t, list(0, 100, 1, 50, 254, 50), all(3))
	holdChange(t, p, list(1000, 100, 7, 100), 0, api.OK)
	for range 3 {
		for class := range classes {
			holdPut(t, p, class, frame(class, 100), api.OK)
			holdPut(t, p, class, early(-class, 1), api.OK)
		}
		holdClear(t, p, 16)
		holdNever(t, p, 0)
		holdNoNext(t, p, 0)
		holdClear(t, p, 0)
	}
	holdState(t, p, 40, 1)
	holdState(t, p, 60, 254)
	holdState(t, p, 993, 0)
	holdState(t, p, 1060, 7)
}

// P16.1: a nil port answers ErrArg, whatever else is wrong, and nothing.
func TestNil(t *testing.T) {
	var p *port.Port
	for _, class := range []int{-1, 0, 7, classes, least, most} {
		for _, size := range []int{0, 64, -1, maxFrame + 1} {
			holdPut(t, p, class, frame(1, size), api.ErrArg)
		}
		holdLong(t, p, class, 0, 0)
	}
	for _, now := range []int{0, 5, maxTime, -1, maxTime + 1, least, most} {
		holdChange(t, p, ever(255), now, api.ErrArg)
		for _, x := range wrongLists() {
			holdChange(t, p, x.l, now, api.ErrArg)
		}
		holdNoNext(t, p, now)
		holdNever(t, p, now)
	}
	holdClear(t, p, 0)
}

// P16.1: a port that New didn't make has no gates and no rooms, and doesn't panic.
func TestZero(t *testing.T) {
	p := &port.Port{}
	p.Put(3, frame(1, 1))
	p.Change(ever(255), 0)
	for _, now := range []int{0, maxTime, -1} {
		holdNoNext(t, p, now)
		holdNever(t, p, now)
	}
	holdClear(t, p, 0)
}
