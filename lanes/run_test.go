package lanes_test

import (
	"testing"

	"sandglass/api"
	"sandglass/lanes"
)

// chance is a row of numbers that looks like one at random, always the same.
type chance uint64

func (c *chance) below(n int) int {
	*c = *c*6364136223846793005 + 1442695040888963407
	return int(*c>>20) % n
}

// one is one of some numbers.
func (c *chance) one(xs ...int) int { return xs[c.below(len(xs))] }

// class is mostly one that is there.
func (c *chance) class() int {
	if c.below(30) == 0 {
		return c.one(-1, classes, least, most)
	}
	return c.below(classes)
}

// item is mostly one that is right.
func (c *chance) item(id int) lanes.Item {
	size := c.one(c.below(maxFrame+1), c.below(200), 0, maxFrame)
	if c.below(30) == 0 {
		size = c.one(-1, maxFrame+1, least, most)
	}
	return lanes.Item{Id: id, Size: size, Drop: c.below(3) == 0}
}

// left is what is left to each class: much, little, nothing, or just what a first one of p needs, or one less.
func (c *chance) left(p *plain) [classes]int {
	var left [classes]int
	for class := range left {
		left[class] = c.one(c.below(8*maxFrame+1), c.below(2000), 0, 0, -1, most, least)
		if it, ok := p.head(class); ok && c.below(3) == 0 {
			left[class] = 8*it.Size - c.below(2)
		}
	}
	return left
}

// one that waits or was lost, and its class.
type one struct {
	class int
	it    lanes.Item
}

// plain is lanes by the chapter's words: one row of all that wait, in the order in which they came, and one of all that were lost.
type plain struct {
	rooms   [classes]int
	waiting []one
	lost    []one
}

// count is how many of a class there are.
func count(xs []one, class int) int {
	n := 0
	for _, x := range xs {
		if x.class == class {
			n++
		}
	}
	return n
}

func (p *plain) put(class int, it lanes.Item) api.Errno {
	if it.Size < 0 || it.Size > maxFrame {
		return api.ErrArg
	}
	if class < 0 || class > 7 {
		return api.ErrPort
	}
	wait, room := count(p.waiting, class), p.rooms[class]
	// At least half of an odd room is the half that is rounded up.
	if wait == room || it.Drop && wait >= room/2+room%2 {
		p.lost = append(p.lost, one{class, it})
		return api.ErrFull
	}
	p.waiting = append(p.waiting, one{class, it})
	return api.OK
}

// first is the place of the one of a class that has waited longest; -1: none.
func (p *plain) first(class int) int {
	for i, x := range p.waiting {
		if x.class == class {
			return i
		}
	}
	return -1
}

func (p *plain) head(class int) (lanes.Item, bool) {
	if i := p.first(class); i >= 0 {
		return p.waiting[i].it, true
	}
	return lanes.Item{}, false
}

func (p *plain) pick(left [classes]int) (int, lanes.Item, bool) {
	best := -1
	for class := range classes {
		if it, ok := p.head(class); ok && left[class] >= 8*it.Size {
			best = class
		}
	}
	if best < 0 {
		return 0, lanes.Item{}, false
	}
	i := p.first(best)
	it := p.waiting[i].it
	var rest []one
	rest = append(rest, p.waiting[:i]...)
	p.waiting = append(rest, p.waiting[i+1:]...)
	return best, it, true
}

func (p *plain) clear() int {
	n := len(p.waiting)
	p.waiting = nil
	return n
}

// sums is how often something was so in runs.
type sums struct{ ok, arg, port, full, drop, picked, none, passed, cleared int }

// note counts what a Put told.
func (s *sums) note(err api.Errno, it lanes.Item) {
	switch err {
	case api.OK:
		s.ok++
	case api.ErrArg:
		s.arg++
	case api.ErrPort:
		s.port++
	case api.ErrFull:
		s.full++
		if it.Drop {
			s.drop++
		}
	}
}

// holdTold holds all that lanes tell against the plain ones.
func holdTold(t *testing.T, l *lanes.Lanes, p *plain) {
	t.Helper()
	for class := -1; class <= classes; class++ {
		it, ok := p.head(class)
		holdHead(t, l, class, it, ok)
		holdLong(t, l, class, count(p.waiting, class), count(p.lost, class))
	}
}

// run does many things to lanes and to plain ones, and holds them against each other.
func run(t *testing.T, c *chance, steps int, s *sums) {
	t.Helper()
	p := &plain{}
	for class := range p.rooms {
		p.rooms[class] = c.one(0, 1, 2, 3, c.below(20), c.below(20))
	}
	l := newLanes(t, p.rooms)
	// Now more comes in than goes out, now less.
	puts := 1
	for id := range steps {
		if c.below(50) == 0 {
			puts = c.below(6)
		}
		for range c.below(puts + 1) {
			class, it := c.class(), c.item(id)
			want := p.put(class, it)
			s.note(want, it)
			if err := l.Put(class, it); err != want {
				t.Fatalf("Put(%d, %v) is %d, not %d", class, it, err, want)
			}
		}
		if c.below(2) == 0 {
			left := c.left(p)
			class, it, ok := p.pick(left)
			gotClass, got, gotOk := l.Pick(left)
			if class != gotClass || it != got || ok != gotOk {
				t.Fatalf("Pick(%v) is %d, %v, %v, not %d, %v, %v", left, gotClass, got, gotOk, class, it, ok)
			}
			s.pick(p, class, ok)
		}
		if c.below(200) == 0 {
			want := p.clear()
			if got := l.Clear(); got != want {
				t.Fatalf("Clear is %d, not %d", got, want)
			}
			s.cleared += want
		}
		holdTold(t, l, p)
		if t.Failed() {
			t.Fatalf("rooms %v, step %d", p.rooms, id)
		}
	}
}

// pick counts what a Pick told, and whether it passed a higher class by.
func (s *sums) pick(p *plain, class int, ok bool) {
	if !ok {
		s.none++
		return
	}
	s.picked++
	for higher := class + 1; higher < classes; higher++ {
		if p.first(higher) >= 0 {
			s.passed++
			return
		}
	}
}

// P15.1, P15.2: many rooms, long runs, held against the chapter's words.
func TestLongRuns(t *testing.T) {
	c := chance(1)
	var s sums
	for range 150 {
		run(t, &c, 600, &s)
	}
	if min(s.ok, s.arg, s.port, s.full, s.drop, s.picked, s.none, s.passed, s.cleared) < 1000 {
		t.Errorf("of something there is too little: %+v", s)
	}
}

// P15.2: a row that never ends, half full and full, comes out as it went in.
func TestLongRow(t *testing.T) {
	for _, waits := range []int{0, 1, 100, maxRoom - 1} {
		l := newLanes(t, only(4, maxRoom))
		for id := range 100000 + waits {
			if err := l.Put(4, frame(id, id%(maxFrame+1))); err != api.OK {
				t.Fatalf("Put of number %d is %d", id, err)
			}
			if id < waits {
				continue
			}
			want := frame(id-waits, (id-waits)%(maxFrame+1))
			if class, it, ok := l.Pick(only(4, 8*want.Size)); class != 4 || it != want || !ok {
				t.Fatalf("Pick is %d, %v, %v, not %v", class, it, ok, want)
			}
		}
		holdLong(t, l, 4, waits, 0)
		holdClear(t, l, waits)
	}
}

// P15.1: many rooms, of which some aren't right.
func TestNewRuns(t *testing.T) {
	c := chance(2)
	seen := map[api.Errno]int{}
	for range 20000 {
		var rooms [classes]int
		want := api.OK
		for class := range rooms {
			rooms[class] = c.one(0, 1, c.below(maxRoom+1), maxRoom)
			if c.below(12) == 0 {
				rooms[class] = c.one(-1, maxRoom+1, least, most, c.below(1<<20)-1<<19)
			}
			if rooms[class] < 0 || rooms[class] > 4096 {
				want = api.ErrArg
			}
		}
		seen[want]++
		if l, err := lanes.New(rooms); err != want || (l != nil) != (want == api.OK) {
			t.Fatalf("New(%v) is there: %v, %d, not %d", rooms, l != nil, err, want)
		}
	}
	for _, err := range []api.Errno{api.OK, api.ErrArg} {
		if seen[err] < 1000 {
			t.Errorf("of %d there are only %d", err, seen[err])
		}
	}
}
