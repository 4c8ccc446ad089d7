package agenda_test

import (
	"slices"
	"testing"

	"sandglass/agenda"
	"sandglass/api"
)

// note is something in a plain list.
type note struct {
	at   int
	turn int
	what int
}

// plain is an agenda as a list, in the order of Put.
type plain struct {
	list []note
	last int
	now  int
}

func (p *plain) put(at, what int) (int, api.Errno) {
	if at > maxTime {
		return 0, api.ErrArg
	}
	if at < p.now {
		return 0, api.ErrOrder
	}
	if len(p.list) >= 8192 {
		return 0, api.ErrFull
	}
	p.last++
	p.list = append(p.list, note{at, p.last, what})
	return p.last, api.OK
}

func (p *plain) takeOut(place int) {
	p.list = slices.Delete(p.list, place, place+1)
}

func (p *plain) drop(turn int) bool {
	for i, x := range p.list {
		if x.turn == turn {
			p.takeOut(i)
			return true
		}
	}
	return false
}

// first is the place of what comes next, -1 of nothing.
func (p *plain) first() int {
	first := -1
	for i, x := range p.list {
		if first < 0 || x.at < p.list[first].at {
			first = i
		}
	}
	return first
}

func (p *plain) next(limit int) (note, bool) {
	i := p.first()
	if i < 0 || p.list[i].at > limit {
		return note{}, false
	}
	x := p.list[i]
	p.takeOut(i)
	p.now = x.at
	return x, true
}

func (p *plain) wait(at int) int {
	if i := p.first(); i >= 0 && p.list[i].at < at {
		at = p.list[i].at
	}
	if at > maxTime {
		at = maxTime
	}
	if at > p.now {
		p.now = at
	}
	return p.now
}

// chance is a row of numbers that looks like one at random, always the same.
type chance uint64

func (c *chance) below(n int) int {
	*c = *c*6364136223846793005 + 1442695040888963407
	return int(*c>>33) % n
}

// longRun does many things at random to an agenda and to a plain list, and holds them against each other.
// Of hundred things so many are Put; times are up to span behind Now.
func longRun(t *testing.T, c chance, steps, puts, span int) {
	t.Helper()
	a, p := agenda.New[int](), &plain{}
	for i := range steps {
		at := p.now + c.below(span+4) - 3
		switch kind := c.below(100); {
		case kind < puts:
			got, err := a.Put(at, i)
			if want, e := p.put(at, i); got != want || err != e {
				t.Fatalf("step %d: Put(%d) is %d, %d, not %d, %d", i, at, got, err, want, e)
			}
		case kind < puts+(100-puts)/3:
			turn := c.below(p.last + 3)
			if len(p.list) > 0 && c.below(2) == 0 {
				turn = p.list[c.below(len(p.list))].turn
			}
			if got, want := a.Drop(turn), p.drop(turn); got != want {
				t.Fatalf("step %d: Drop(%d) is %v, not %v", i, turn, got, want)
			}
		case kind < 95:
			gotAt, turn, what, ok := a.Next(at)
			if want, isThere := p.next(at); (note{gotAt, turn, what}) != want || ok != isThere {
				t.Fatalf("step %d: Next(%d) is %d, %d, %d, %v, not %v", i, at, gotAt, turn, what, ok, want)
			}
		default:
			if got, want := a.Wait(at), p.wait(at); got != want {
				t.Fatalf("step %d: Wait(%d) is %d, not %d", i, at, got, want)
			}
		}
		if a.Now() != p.now || a.Len() != len(p.list) {
			t.Fatalf("step %d: Now is %d, Len %d, not %d, %d", i, a.Now(), a.Len(), p.now, len(p.list))
		}
	}
	drain(t, a, p)
}

// drain takes all that is left.
func drain(t *testing.T, a *agenda.Agenda[int], p *plain) {
	t.Helper()
	for {
		at, turn, what, ok := a.Next(maxTime)
		want, isThere := p.next(maxTime)
		if (note{at, turn, what}) != want || ok != isThere || a.Now() != p.now || a.Len() != len(p.list) {
			t.Fatalf("at the end Next is %d, %d, %d, %v, not %v", at, turn, what, ok, want)
		}
		if !ok {
			return
		}
	}
}

// P8.1, P8.2: long runs of what is put, dropped, taken and waited for, held against a plain list.
func TestLongRuns(t *testing.T) {
	for seed, x := range []struct{ steps, puts, span int }{
		{20000, 40, 3}, {20000, 50, 20}, {20000, 60, 1000}, {20000, 45, 1}, {15000, 80, 100000}, {12000, 97, 50}, {300, 50, maxTime / 40},
	} {
		longRun(t, chance(seed+1), x.steps, x.puts, x.span)
	}
}

// P8.1, P8.2: a full one, dropped from at random and filled again, comes in order to the end.
func TestFullRun(t *testing.T) {
	c, a, p := chance(99), agenda.New[int](), &plain{}
	fill := func() {
		for i := range 8200 {
			at := p.now + c.below(500)
			got, err := a.Put(at, i)
			if want, e := p.put(at, i); got != want || err != e {
				t.Fatalf("Put(%d) is %d, %d, not %d, %d", at, got, err, want, e)
			}
		}
	}
	fill()
	for range 4000 {
		turn := c.below(8300)
		if got, want := a.Drop(turn), p.drop(turn); got != want {
			t.Fatalf("Drop(%d) is %v, not %v", turn, got, want)
		}
	}
	fill()
	if a.Len() != 8192 {
		t.Error("Len is", a.Len())
	}
	drain(t, a, p)
}

// P8.1, P8.2: what is put comes out as it was put in, of whatever type.
func TestAnyType(t *testing.T) {
	room := []byte{1, 2, 3, 4}
	bytes := agenda.New[[]byte]()
	holdPut(t, bytes, 1, room[:2], 1, api.OK)
	holdPut(t, bytes, 1, nil, 2, api.OK)
	if _, _, got, ok := bytes.Next(1); !ok || len(got) != 2 || cap(got) != 4 || &got[0] != &room[0] {
		t.Error("a list came out as another one")
	}
	if _, turn, got, ok := bytes.Next(1); !ok || turn != 2 || got != nil {
		t.Error("a nil list came out as", got)
	}

	things := agenda.New[any]()
	holdPut[any](t, things, 4, "text", 1, api.OK)
	holdPut[any](t, things, 3, nil, 2, api.OK)
	holdPut[any](t, things, 2, api.ErrNone, 3, api.OK)
	holdPut[any](t, things, 2, things, 4, api.OK)
	holdNext[any](t, things, 9, 2, 3, api.ErrNone)
	holdNext[any](t, things, 9, 2, 4, things)
	holdNext[any](t, things, 9, 3, 2, nil)
	holdNext[any](t, things, 9, 4, 1, "text")
	holdNothing[any](t, things, 9)

	n := 5
	pointers := agenda.New[*int]()
	holdPut(t, pointers, 0, &n, 1, api.OK)
	holdPut(t, pointers, 0, nil, 2, api.OK)
	holdNext(t, pointers, 0, 0, 1, &n)
	holdNext(t, pointers, 0, 0, 2, nil)

	notes := agenda.New[note]()
	holdPut(t, notes, 6, note{1, 2, 3}, 1, api.OK)
	holdPut(t, notes, 6, note{}, 2, api.OK)
	holdNext(t, notes, 6, 6, 1, note{1, 2, 3})
	holdNext(t, notes, 6, 6, 2, note{})

	calls := agenda.New[func() int]()
	holdPut(t, calls, 1, func() int { return n }, 1, api.OK)
	if _, _, call, ok := calls.Next(1); !ok || call() != 5 {
		t.Error("a function came out as another one")
	}
}
