package port_test

import (
	"testing"

	"sandglass/api"
	"sandglass/gates"
	"sandglass/lanes"
	"sandglass/port"
)

// chance is a row of numbers that looks like one at random, always the same.
type chance uint64

func (c *chance) below(n int) int {
	*c = *c*6364136223846793005 + 1442695040888963407
	return int(*c>>20) % n
}

// one is one of some numbers.
func (c *chance) one(xs ...int) int { return xs[c.below(len(xs))] }

// list is one that is right, with slots of up to so many nanoseconds, whose cycle begins somewhere up to a time.
func (c *chance) list(slot, base int) gates.List {
	l := gates.List{Base: c.below(base + 1)}
	for range 1 + c.below(6) {
		long := 1 + c.below(slot)
		l.Slots = append(l.Slots, gates.Slot{Open: c.one(c.below(256), c.below(256), 0, 255, 1<<c.below(8)), Len: long})
		l.Cycle += long
	}
	l.Cycle += c.one(0, c.below(slot))
	return l
}

// spoil is a list in which something is wrong, and layer 11's error of it.
func (c *chance) spoil(l gates.List) (gates.List, api.Errno) {
	i := c.below(len(l.Slots))
	switch c.below(5) {
	case 0:
		l.Slots[i].Open = c.one(-1, 256, least, most)
	case 1:
		l.Base = c.one(-1, maxTime+1, least, most)
	case 2:
		l.Cycle = c.one(0, -1, mostCycle+1, least, most)
	case 3:
		l.Slots[len(l.Slots)-1].Len = l.Cycle + 1
		return l, api.ErrSlot
	case 4:
		return manySlots(65 + c.below(5)), api.ErrMany
	}
	return l, api.ErrArg
}

// class is mostly one that is there.
func (c *chance) class() int {
	if c.below(40) == 0 {
		return c.one(-1, classes, least, most)
	}
	return c.below(classes)
}

// item is mostly one that is right, and short.
func (c *chance) item(id, size int) lanes.Item {
	it := lanes.Item{Id: id, Size: c.below(size + 1), Drop: c.below(3) == 0}
	if c.below(40) == 0 {
		it.Size = c.one(-1, maxFrame+1, least, most, maxFrame)
	}
	return it
}

// isOpen tells whether a gate is open at a nanosecond, slot by slot from the cycle's begin on.
func isOpen(l gates.List, at, gate int) bool {
	gone := ((at-l.Base)%l.Cycle + l.Cycle) % l.Cycle
	open := l.Slots[len(l.Slots)-1].Open
	for _, s := range l.Slots {
		if gone < s.Len {
			open = s.Open
			break
		}
		gone -= s.Len
	}
	return open>>gate%2 == 1
}

// one that waits, and its class.
type one struct {
	class int
	it    lanes.Item
}

// plain is a port by the chapters' words, nanosecond by nanosecond: one row of all that wait, the list that holds, and the one that is to come, or none.
type plain struct {
	rooms   [classes]int
	waiting []one
	lost    [classes]int
	list    gates.List
	next    []gates.List
	from    int
}

// come lets the next list hold, if its time has come.
func (p *plain) come(now int) {
	if len(p.next) > 0 && now >= p.from {
		p.list, p.next = p.next[0], nil
	}
}

func (p *plain) change(l gates.List, now int) {
	p.come(now)
	p.next, p.from = []gates.List{clone(l)}, max(now, l.Base)
	for (p.from-l.Base)%l.Cycle != 0 {
		p.from++
	}
}

// long is how many of a class wait.
func (p *plain) long(class int) int {
	n := 0
	for _, x := range p.waiting {
		if x.class == class {
			n++
		}
	}
	return n
}

func (p *plain) put(class int, it lanes.Item) api.Errno {
	if it.Size < 0 || it.Size > maxFrame {
		return api.ErrArg
	}
	if class < 0 || class > 7 {
		return api.ErrPort
	}
	room := p.rooms[class]
	if it.Drop {
		room = room/2 + room%2
	}
	if p.long(class) >= room {
		p.lost[class]++
		return api.ErrFull
	}
	p.waiting = append(p.waiting, one{class, it})
	return api.OK
}

// fits tells whether a frame is out while its gate is open, and ahead of another list.
func (p *plain) fits(x one, now int) bool {
	end := now + 8*x.it.Size
	if len(p.next) > 0 && end > p.from {
		return false
	}
	for at := now; at < end; at++ {
		if !isOpen(p.list, at, x.class) {
			return false
		}
	}
	return true
}

// goes is the place of the frame that goes out, of those that are the first of their class; -1: none.
func (p *plain) goes(now int) int {
	best, seen := -1, [classes]bool{}
	for i, x := range p.waiting {
		if !seen[x.class] && p.fits(x, now) && (best < 0 || x.class > p.waiting[best].class) {
			best = i
		}
		seen[x.class] = true
	}
	return best
}

func (p *plain) pick(now int) (lanes.Item, int, bool) {
	p.come(now)
	i := p.goes(now)
	if i < 0 {
		return lanes.Item{}, 0, false
	}
	x := p.waiting[i]
	var rest []one
	rest = append(rest, p.waiting[:i]...)
	p.waiting = append(rest, p.waiting[i+1:]...)
	return x.it, x.class, true
}

func (p *plain) when(now int) (int, bool) {
	if len(p.waiting) == 0 {
		return 0, false
	}
	p.come(now)
	if p.goes(now) >= 0 {
		return now, true
	}
	// Behind two cycles nothing opens for the first time.
	for at := now + 1; at <= now+2*p.list.Cycle || len(p.next) > 0; at++ {
		if len(p.next) > 0 && at == p.from {
			return at, true
		}
		for class := range classes {
			if p.long(class) > 0 && isOpen(p.list, at, class) && !isOpen(p.list, at-1, class) {
				return at, true
			}
		}
	}
	return 0, false
}

// sums is how often something was so in runs.
type sums struct{ ok, arg, port, full, picked, none, passed, now, later, turn, never, changed, wrong, cleared int }

// note counts what a Put told.
func (s *sums) note(err api.Errno) {
	switch err {
	case api.OK:
		s.ok++
	case api.ErrArg:
		s.arg++
	case api.ErrPort:
		s.port++
	case api.ErrFull:
		s.full++
	}
}

// run is a port and a plain one to which the same is done.
type run struct {
	t    *testing.T
	c    *chance
	s    *sums
	p    *port.Port
	is   *plain
	now  int
	slot int // how long a slot is at most
	size int // how many bytes most frames have at most
}

func (r *run) put(id int) {
	class, it := r.c.class(), r.c.item(id, r.size)
	want := r.is.put(class, it)
	r.s.note(want)
	if err := r.p.Put(class, it); err != want {
		r.t.Fatalf("Put(%d, %v) is %d, not %d", class, it, err, want)
	}
}

// change changes to a list, or tries so with one that isn't right, or at no time; what was handed in is written over.
func (r *run) change() {
	l := r.c.list(r.slot, r.now+300)
	now, want := r.now, api.OK
	switch r.c.below(6) {
	case 0:
		now, want = r.c.one(-1, maxTime+1, least, most), api.ErrArg
	case 1:
		l, want = r.c.spoil(l)
	case 2:
		l, want = r.c.spoil(l)
		now = r.c.one(-1, maxTime+1)
	case 3:
		// One that holds from now on.
		l.Base = now
	}
	if want == api.OK {
		r.is.change(l, now)
		r.s.changed++
	} else {
		r.s.wrong++
	}
	if err := r.p.Change(l, now); err != want {
		r.t.Fatalf("Change(%v, %d) is %d, not %d", l, now, err, want)
	}
	scribble(l)
}

func (r *run) next() {
	it, class, ok := r.is.pick(r.now)
	if got, c, is := r.p.Next(r.now); got != it || c != class || is != ok {
		r.t.Fatalf("Next(%d) is %v, %d, %v, not %v, %d, %v", r.now, got, c, is, it, class, ok)
	}
	if !ok {
		r.s.none++
		return
	}
	r.s.picked++
	for _, x := range r.is.waiting {
		if x.class > class {
			r.s.passed++
			return
		}
	}
}

func (r *run) when() {
	want, ok := r.is.when(r.now)
	if got, is := r.p.When(r.now); got != want || is != ok {
		r.t.Fatalf("When(%d) is %d, %v, not %d, %v", r.now, got, is, want, ok)
	}
	switch {
	case !ok:
		r.s.never++
	case want == r.now:
		r.s.now++
	case len(r.is.next) > 0 && want == r.is.from:
		r.s.turn++
	default:
		r.s.later++
	}
	// Often the next time is just that one.
	if ok && want <= maxTime && r.c.below(3) == 0 {
		r.now = want
	}
}

// wrongTime asks at a time that isn't one.
func (r *run) wrongTime() {
	now := r.c.one(-1, maxTime+1, least, most, -r.c.below(1000)-1)
	holdNoNext(r.t, r.p, now)
	holdNever(r.t, r.p, now)
}

// step does something, and holds what the port tells against the plain one.
func (r *run) step(id int) {
	switch r.c.below(12) {
	case 0, 1, 2, 3:
		r.put(id)
	case 4, 5, 6:
		r.next()
	case 7, 8, 9:
		r.when()
	case 10:
		r.now = min(r.now+r.c.below(r.slot), maxTime)
	case 11:
		switch r.c.below(8) {
		case 0, 1, 2, 3, 4:
			r.change()
		case 5:
			r.wrongTime()
		case 6:
			want := len(r.is.waiting)
			r.is.waiting = nil
			r.s.cleared += want
			holdClear(r.t, r.p, want)
		}
	}
	for class := range classes {
		holdLong(r.t, r.p, class, r.is.long(class), r.is.lost[class])
	}
	holdLong(r.t, r.p, -1, 0, 0)
	holdLong(r.t, r.p, classes, 0, 0)
}

// P16.1 to P16.3: many ports, long runs, held against the chapters' words nanosecond by nanosecond.
func TestLongRuns(t *testing.T) {
	c := chance(1)
	var s sums
	for n := range 200 {
		r := run{t: t, c: &c, s: &s, slot: 20 + c.below(100), size: 1 + c.below(12)}
		if n%4 == 3 {
			r.now = maxTime - c.below(3000)
		}
		l := c.list(r.slot, 300)
		var rooms [classes]int
		for class := range rooms {
			rooms[class] = c.one(0, 1, 2, 3, 1+c.below(12), 1+c.below(12))
		}
		r.is = &plain{rooms: rooms, list: clone(l)}
		r.p = newPort(t, l, rooms)
		scribble(l)
		for id := range 700 {
			r.step(id)
			if t.Failed() {
				t.Fatalf("run %d, step %d", n, id)
			}
		}
	}
	if min(s.ok, s.arg, s.port, s.full, s.picked, s.none, s.passed, s.now, s.later, s.turn, s.never, s.changed, s.wrong, s.cleared) < 500 {
		t.Errorf("of something there is too little: %+v", s)
	}
}

// drive lets frames go out as long as something waits and When tells a time, and hands each one that is picked, and its time, on.
func drive(t *testing.T, p *port.Port, now, end int, picked func(x one, now int)) {
	t.Helper()
	for now <= end {
		when, ok := p.When(now)
		if !ok || when > end {
			return
		}
		it, class, ok := p.Next(when)
		switch {
		case ok:
			picked(one{class, it}, when)
			now = when + 8*it.Size
		case when == now:
			t.Fatalf("When(%d) is now, and Next has nothing", now)
		default:
			now = when
		}
	}
}

// P16.4: whatever goes out has its gate open for all its time, by the list that holds in each nanosecond, with a list to come; each class in its order.
func TestDrive(t *testing.T) {
	c := chance(2)
	out, over := 0, 0
	for range 3000 {
		slot := 20 + c.below(300)
		old, next := c.list(slot, 300), c.list(slot, 1500)
		p := newPort(t, old, all(50))
		begin := c.below(500)
		is := &plain{list: old}
		is.change(next, begin)
		holdChange(t, p, next, begin, api.OK)
		for id := range 60 {
			p.Put(c.below(classes), frame(id, c.below(20)))
		}
		last := [classes]int{-1, -1, -1, -1, -1, -1, -1, -1}
		drive(t, p, begin, 5000, func(x one, now int) {
			out++
			if x.it.Id <= last[x.class] {
				t.Errorf("of class %d %d goes out behind %d", x.class, x.it.Id, last[x.class])
			}
			last[x.class] = x.it.Id
			for at := now; at < now+8*x.it.Size; at++ {
				l := old
				if at >= is.from {
					l = next
					over++
				}
				if !isOpen(l, at, x.class) {
					t.Fatalf("%v goes out at %d, but its gate is closed at %d", x, now, at)
				}
			}
		})
		if t.Failed() {
			t.Fatalf("%v, then %v from %d", old, next, is.from)
		}
	}
	if min(out, over) < 50000 {
		t.Errorf("only %d went out, %d ns of them by the other list", out, over)
	}
}

// P16.3: a driver that sleeps until what When says has the same frames at the same times as one that asks in each nanosecond.
func TestWhenLosesNothing(t *testing.T) {
	c := chance(3)
	for range 300 {
		slot := 20 + c.below(60)
		old, next, begin := c.list(slot, 100), c.list(slot, 600), c.below(200)
		a, b := newPort(t, old, all(20)), newPort(t, old, all(20))
		for id := range 20 {
			class, it := c.below(classes), frame(id, c.below(10))
			holdPut(t, a, class, it, api.OK)
			holdPut(t, b, class, it, api.OK)
		}
		holdChange(t, a, next, begin, api.OK)
		holdChange(t, b, next, begin, api.OK)
		type gone struct {
			one
			at int
		}
		var got, want []gone
		drive(t, a, begin, 3000, func(x one, now int) { got = append(got, gone{x, now}) })
		for now := begin; now <= 3000; now++ {
			for it, class, ok := b.Next(now); ok; it, class, ok = b.Next(now) {
				want = append(want, gone{one{class, it}, now})
				now += 8 * it.Size
			}
		}
		// A frame that began to go out ahead of the end may be followed by another one at once.
		for len(want) > 0 && want[len(want)-1].at > 3000 {
			want = want[:len(want)-1]
		}
		if len(got) != len(want) {
			t.Fatalf("%v, then %v: %d went out, not %d", old, next, len(got), len(want))
		}
		for i, x := range got {
			if x != want[i] {
				t.Fatalf("%v, then %v: number %d to go out is %v, not %v", old, next, i, x, want[i])
			}
		}
	}
}
