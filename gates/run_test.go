package gates_test

import (
	"math/big"
	"testing"

	"sandglass/api"
	"sandglass/gates"
)

// chance is a row of numbers that looks like one at random, always the same.
type chance uint64

func (c *chance) below(n int) int {
	*c = *c*6364136223846793005 + 1442695040888963407
	return int(*c>>20) % n
}

// open is a set of gates, often one of a few.
func (c *chance) open() int {
	few := [...]int{0, 1, 2, 3, 128, 254, 255}
	if c.below(3) == 0 {
		return c.below(256)
	}
	return few[c.below(len(few))]
}

// list is a right list with a cycle of at most so many nanoseconds.
func (c *chance) list(most int) gates.List {
	l := gates.List{Base: c.below(1 << (1 + c.below(40))), Cycle: 1 + c.below(most)}
	if c.below(10) == 0 {
		l.Base = maxTime
	}
	left := l.Cycle
	for range 1 + c.below(1<<c.below(7)) {
		if left == 0 {
			break
		}
		long := 1 + c.below(left)
		if c.below(3) > 0 {
			long = 1 + (long-1)/(1+c.below(40))
		}
		l.Slots = append(l.Slots, gates.Slot{Open: c.open(), Len: long})
		left -= long
	}
	return l
}

// spoiled is a list in which something may be wrong.
func (c *chance) spoiled(l gates.List) gates.List {
	wrong := wrongNumbers()
	x := wrong[c.below(len(wrong))]
	if c.below(2) == 0 {
		x = c.below(40) - 2
	}
	l = clone(l)
	at := c.below(len(l.Slots))
	switch c.below(6) {
	case 0:
		l.Base = x
	case 1:
		l.Cycle = x
	case 2:
		l.Slots[at].Open = x
	case 3:
		l.Slots[at].Len = x
	case 4:
		l.Slots[at].Len += c.below(l.Cycle)
	case 5:
		for range c.below(70) {
			l.Slots = append(l.Slots, gates.Slot{Open: 1, Len: 1})
		}
	}
	return l
}

// plainCheck is what is wrong with a list, with sums of any length.
func plainCheck(l gates.List) api.Errno {
	within := func(x, least, most int) bool { return least <= x && x <= most }
	n := len(l.Slots)
	if n > 64 {
		return api.ErrMany
	}
	if n == 0 || !within(l.Cycle, 1, mostCycle) || !within(l.Base, 0, maxTime) {
		return api.ErrArg
	}
	for i, s := range l.Slots {
		if !within(s.Open, 0, 255) || !within(s.Len, 1, mostCycle) {
			return api.ErrArg
		}
		sum := new(big.Int)
		for _, s := range l.Slots[:i+1] {
			sum.Add(sum, big.NewInt(int64(s.Len)))
		}
		if sum.Cmp(big.NewInt(int64(l.Cycle))) > 0 {
			return api.ErrSlot
		}
	}
	return api.OK
}

// plain is a list as one set of gates for each nanosecond of its cycle.
type plain struct {
	base int
	open []int
}

func newPlain(l gates.List) *plain {
	p := &plain{base: l.Base}
	for _, s := range l.Slots {
		for range s.Len {
			p.open = append(p.open, s.Open)
		}
	}
	for len(p.open) < l.Cycle {
		p.open = append(p.open, l.Slots[len(l.Slots)-1].Open)
	}
	return p
}

// gone is how much of its cycle has gone by at a time, by numbers of any length.
func gone(at, base, cycle int) int {
	far := new(big.Int).Sub(big.NewInt(int64(at)), big.NewInt(int64(base)))
	return int(far.Mod(far, big.NewInt(int64(cycle))).Int64())
}

func (p *plain) state(at int) int { return p.open[gone(at, p.base, len(p.open))] }

// bit is whether a gate is open in a nanosecond of a cycle.
func (p *plain) bit(i, gate int) int { return p.open[i%len(p.open)] >> gate % 2 }

// until is how many nanoseconds go by until a gate's bit is as asked; -1, if it never is.
func (p *plain) until(at, gate, bit int) int {
	i := gone(at, p.base, len(p.open))
	for n := range len(p.open) {
		if p.bit(i+n, gate) == bit {
			return n
		}
	}
	return -1
}

// turn is the first nanosecond at or behind a time at which none of a cycle has gone by.
func (p *plain) turn(at int) int {
	for gone(at, p.base, len(p.open)) != 0 {
		at++
	}
	return at
}

// time is a time at which a list may be asked.
func (c *chance) time(l gates.List) int {
	switch c.below(6) {
	case 0:
		return 2*maxTime - c.below(1<<(1+c.below(30)))
	case 1:
		return -maxTime + c.below(1<<(1+c.below(30)))
	case 2:
		return c.below(3*maxTime) - maxTime
	}
	return l.Base + (c.below(9)-4)*l.Cycle + c.below(l.Cycle)
}

// within tells whether a list may be asked at a time.
func within(at int) bool { return at >= -maxTime && at <= 2*maxTime }

// holdPlain holds all that a list tells at a time against a plain one.
func holdPlain(t *testing.T, l gates.List, p *plain, at int) {
	t.Helper()
	holdState(t, l, at, p.state(at))
	for gate := range 8 {
		left := p.until(at, gate, 0)
		if left < 0 {
			left = always
		}
		holdLeft(t, l, at, gate, left)
		if next := p.until(at, gate, 1); next < 0 {
			holdNever(t, l, at, gate)
		} else {
			holdNext(t, l, at, gate, next)
		}
	}
	holdTurn(t, l, at, p.turn(at))
}

// P11.1, P11.2: many lists with short cycles, held against each nanosecond of a cycle.
func TestLongRuns(t *testing.T) {
	c := chance(1)
	for range 3000 {
		l := c.list(1 << (1 + c.below(9)))
		holdCheck(t, l, api.OK)
		p := newPlain(l)
		for range 20 {
			at := c.time(l)
			if !within(at) {
				holdNothing(t, l, at)
				continue
			}
			holdPlain(t, l, p, at)
		}
		if t.Failed() {
			t.FailNow()
		}
	}
}

// edges are the nanoseconds of a cycle at which a slot begins.
func edges(l gates.List) []int {
	var all []int
	begin := 0
	for _, s := range l.Slots {
		all = append(all, begin)
		begin += s.Len
	}
	return all
}

// stateByEdges is which gates are open, by the last slot that has begun.
func stateByEdges(l gates.List, at int) int {
	open := 0
	for i, begin := range edges(l) {
		if begin <= gone(at, l.Base, l.Cycle) {
			open = l.Slots[i].Open
		}
	}
	return open
}

// holdStays holds that a gate is as asked for so long from a time on, and no longer: at each edge between, and at the ends.
func holdStays(t *testing.T, l gates.List, at, gate, bit, long int) {
	t.Helper()
	is := func(at int) bool { return stateByEdges(l, at)>>gate%2 == bit }
	if is(at) != (long > 0) || long > 0 && !is(at+long-1) || long < always && is(at+long) {
		t.Errorf("%v: gate %d isn't %d for %d from %d on", l, gate, bit, long, at)
	}
	first := at - gone(at, l.Base, l.Cycle)
	for _, round := range []int{0, l.Cycle} {
		for _, begin := range edges(l) {
			if edge := first + round + begin; edge > at && edge < at+long && !is(edge) {
				t.Errorf("%v: gate %d isn't %d for %d from %d on, for it isn't at %d", l, gate, bit, long, at, edge)
			}
		}
	}
}

// P11.2: many lists with long cycles, held against the edges of their slots.
func TestLongCycles(t *testing.T) {
	c := chance(2)
	for range 3000 {
		l := c.list(mostCycle)
		holdCheck(t, l, api.OK)
		starts := edges(l)
		for range 12 {
			at := c.time(l)
			if c.below(2) == 0 {
				at += starts[c.below(len(starts))] - gone(at, l.Base, l.Cycle) - c.below(2)
			}
			if !within(at) {
				holdNothing(t, l, at)
				continue
			}
			holdState(t, l, at, stateByEdges(l, at))
			holdTurn(t, l, at, at+(l.Cycle-gone(at, l.Base, l.Cycle))%l.Cycle)
			gate := c.below(8)
			holdStays(t, l, at, gate, 1, l.Left(at, gate))
			if next, ok := l.Next(at, gate); ok {
				holdStays(t, l, at, gate, 0, next)
			} else {
				holdStays(t, l, at, gate, 0, always)
			}
		}
		if t.Failed() {
			t.FailNow()
		}
	}
}

// P11.1: many lists in which something is wrong, or not.
func TestSpoiled(t *testing.T) {
	c := chance(3)
	seen := map[api.Errno]int{}
	for range 20000 {
		l := c.spoiled(c.list(1 << (1 + c.below(30))))
		for c.below(2) == 0 && len(l.Slots) > 0 && l.Cycle > 0 {
			l = c.spoiled(l)
		}
		want := plainCheck(l)
		seen[want]++
		holdCheck(t, l, want)
		if want != api.OK {
			holdNothing(t, l, c.below(100))
		}
	}
	for _, err := range []api.Errno{api.OK, api.ErrArg, api.ErrSlot, api.ErrMany} {
		if seen[err] < 100 {
			t.Errorf("of %d there are only %d", err, seen[err])
		}
	}
}

// planned is a gate as a list of what holds from when on.
type planned struct {
	holds gates.List
	next  []gates.List // one, or none
	from  int
}

// come lets the next list hold, if its time has come.
func (p *planned) come(now int) {
	if len(p.next) > 0 && now >= p.from {
		*p = planned{holds: p.next[0]}
	}
}

func (p *planned) change(l gates.List, now int) api.Errno {
	if err := plainCheck(l); err != api.OK {
		return err
	}
	if now < 0 || now > maxTime {
		return api.ErrArg
	}
	p.come(now)
	p.next, p.from = []gates.List{clone(l)}, max(now, l.Base)
	for gone(p.from, l.Base, l.Cycle) != 0 {
		p.from++
	}
	return api.OK
}

// P11.3: long runs of changes, held against a plain one.
func TestChangeRuns(t *testing.T) {
	for seed := range 60 {
		c := chance(100 + seed)
		old := c.list(50)
		g, p, now := &gates.Gate{List: clone(old)}, &planned{holds: old}, 0
		for range 400 {
			now += c.below(30) - 3
			if c.below(3) == 0 {
				l := c.list(50)
				l.Base %= 1 + now&0x7fffffff + 40
				if c.below(4) == 0 {
					l = c.spoiled(l)
				}
				if got, want := g.Change(l, now), p.change(l, now); got != want {
					t.Fatalf("Change(%v, %d) is %d, not %d", l, now, got, want)
				}
				if len(l.Slots) > 0 {
					scribble(l)
				}
			} else {
				p.come(now)
				holdAt(t, g, now, p.holds)
			}
			want := gates.Gate{List: p.holds, From: p.from, Wait: len(p.next) > 0}
			if want.Wait {
				want.Admin = p.next[0]
			}
			holdGate(t, g, want)
			if t.Failed() {
				t.FailNow()
			}
		}
	}
}
