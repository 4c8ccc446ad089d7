package gates_test

import (
	"testing"

	"sandglass/api"
	"sandglass/gates"
)

// holdGate holds a gate against all that it has.
func holdGate(t *testing.T, g *gates.Gate, want gates.Gate) {
	t.Helper()
	if !equal(g.List, want.List) || !equal(g.Admin, want.Admin) || g.From != want.From || g.Wait != want.Wait {
		t.Errorf("the gate is %v, not %v", *g, want)
	}
}

// holdChange holds a Change that is to be made against what the gate is then.
func holdChange(t *testing.T, g *gates.Gate, l gates.List, now int, want gates.Gate) {
	t.Helper()
	if err := g.Change(l, now); err != api.OK {
		t.Errorf("Change(%v, %d) is %d", l, now, err)
	}
	holdGate(t, g, want)
}

// holdRefused holds a Change against its error, and that it changes nothing.
func holdRefused(t *testing.T, g *gates.Gate, l gates.List, now int, want api.Errno) {
	t.Helper()
	was := gates.Gate{List: clone(g.List), Admin: clone(g.Admin), From: g.From, Wait: g.Wait}
	if err := g.Change(l, now); err != want {
		t.Errorf("Change(%v, %d) is %d, not %d", l, now, err, want)
	}
	holdGate(t, g, was)
}

// holdAt holds an At against its list.
func holdAt(t *testing.T, g *gates.Gate, now int, want gates.List) {
	t.Helper()
	if got := g.At(now); !equal(got, want) {
		t.Errorf("At(%d) is %v, not %v", now, got, want)
	}
}

// P11.3: a list is to come at the first of its cycles that begins at now or later, but not ahead of its base.
func TestFrom(t *testing.T) {
	old := list(0, 7, 1, 2)
	for _, x := range []struct{ base, cycle, now, from int }{
		{0, 10, 0, 0}, {0, 10, 1, 10}, {0, 10, 10, 10}, {0, 10, 11, 20},
		{100, 10, 0, 100}, {100, 10, 93, 100}, {100, 10, 99, 100}, {100, 10, 100, 100}, {100, 10, 101, 110}, {100, 10, 110, 110},
		{95, 10, 0, 95}, {95, 10, 96, 105}, {95, 10, 105, 105}, {5, 1, 3, 5}, {5, 1, 7, 7},
		{maxTime, 10, 0, maxTime}, {maxTime, 10, maxTime - 1, maxTime}, {maxTime, 10, maxTime, maxTime},
		{0, mostCycle, maxTime, maxTime}, {0, mostCycle - 1, maxTime, maxTime + mostCycle - 1 - maxTime%(mostCycle-1)}, {1, mostCycle, maxTime, maxTime + 1}, {0, mostCycle, maxTime - 1, maxTime},
	} {
		g := &gates.Gate{List: clone(old)}
		l := list(x.base, x.cycle, 3, 1)
		holdChange(t, g, l, x.now, gates.Gate{List: old, Admin: l, From: x.from, Wait: true})
	}
	// Also of a gate that has no list so far.
	l := list(4, 10, 1, 5)
	holdChange(t, &gates.Gate{}, l, 15, gates.Gate{Admin: l, From: 24, Wait: true})
}

// P11.3: the other list holds from From on, not ahead of it, and then for good.
func TestAt(t *testing.T) {
	old, l := list(0, 7, 1, 2), list(4, 10, 3, 1)
	for _, late := range []int{0, 1, 1000, maxTime, most - 24} {
		g := &gates.Gate{List: clone(old)}
		wait := gates.Gate{List: old, Admin: l, From: 24, Wait: true}
		holdAt(t, g, 5, old)
		holdChange(t, g, l, 15, wait)
		for _, now := range []int{15, 0, -1, least, 23, 22, 23} {
			holdAt(t, g, now, old)
			holdGate(t, g, wait)
		}
		holdAt(t, g, 24+late, l)
		holdGate(t, g, gates.Gate{List: l})
		for _, now := range []int{24 + late, 24 + late, 23, 0, -1, least, most} {
			holdAt(t, g, now, l)
			holdGate(t, g, gates.Gate{List: l})
		}
	}
}

// P11.3: if From is now, the other list is to come, and holds at once when it is asked for.
func TestFromNow(t *testing.T) {
	for _, now := range []int{0, 20, maxTime} {
		old, l := list(0, 7, 1, 2), list(0, 10, 3, 1)
		l.Base = now
		g := &gates.Gate{List: clone(old)}
		holdChange(t, g, l, now, gates.Gate{List: old, Admin: l, From: now, Wait: true})
		holdAt(t, g, now-1, old)
		holdAt(t, g, now, l)
		holdGate(t, g, gates.Gate{List: l})
	}
}

// P11.3: the times at which a list may be changed.
func TestChangeTimes(t *testing.T) {
	old, l := list(0, 7, 1, 2), list(0, 1, 3, 1)
	for _, now := range []int{0, 1, maxTime - 1, maxTime} {
		g := &gates.Gate{List: clone(old)}
		holdChange(t, g, l, now, gates.Gate{List: old, Admin: l, From: now, Wait: true})
	}
	for _, now := range []int{-1, -2, maxTime + 1, maxTime + 2, 2 * maxTime, most, least} {
		holdRefused(t, &gates.Gate{List: clone(old)}, l, now, api.ErrArg)
		// A list that was to come by then is still to come.
		holdRefused(t, &gates.Gate{List: clone(old), Admin: clone(l), From: 5, Wait: true}, l, now, api.ErrArg)
		holdRefused(t, &gates.Gate{List: clone(old), Admin: clone(l), From: least, Wait: true}, l, now, api.ErrArg)
	}
}

// P11.3: a list that isn't right is refused, with its own error, whatever now is; one that is to come stays so.
func TestChangeWrong(t *testing.T) {
	old, next := list(0, 7, 1, 2), list(0, 10, 3, 1)
	for _, x := range wrongLists() {
		for _, now := range []int{0, 9, 10, 11, maxTime, -1, maxTime + 1, most, least} {
			holdRefused(t, &gates.Gate{}, x.l, now, x.want)
			holdRefused(t, &gates.Gate{List: clone(old)}, x.l, now, x.want)
			holdRefused(t, &gates.Gate{List: clone(old), Admin: clone(next), From: 10, Wait: true}, x.l, now, x.want)
		}
	}
}

// P11.3: one list more while another one is to come is in its place; if that one's time has come, it holds until then.
func TestChangeWhileOneIsToCome(t *testing.T) {
	old, a, b := list(0, 7, 1, 2), list(0, 10, 3, 1), list(0, 100, 5, 1)
	start := func() *gates.Gate {
		g := &gates.Gate{List: clone(old)}
		holdChange(t, g, a, 11, gates.Gate{List: old, Admin: a, From: 20, Wait: true})
		return g
	}
	g := start()
	holdChange(t, g, b, 19, gates.Gate{List: old, Admin: b, From: 100, Wait: true})
	for _, now := range []int{20, 99} {
		holdAt(t, g, now, old)
	}
	holdAt(t, g, 100, b)
	for _, now := range []int{20, 21, 90} {
		g := start()
		holdChange(t, g, b, now, gates.Gate{List: a, Admin: b, From: 100, Wait: true})
		holdAt(t, g, 99, a)
		holdAt(t, g, 100, b)
		holdGate(t, g, gates.Gate{List: b})
	}
	// The same list again, and one that comes sooner than the one that was to come.
	g = start()
	holdChange(t, g, a, 12, gates.Gate{List: old, Admin: a, From: 20, Wait: true})
	sooner := list(13, 10, 7, 1)
	holdChange(t, g, sooner, 12, gates.Gate{List: old, Admin: sooner, From: 13, Wait: true})
	holdAt(t, g, 13, sooner)
	// A time that is ahead of an earlier call's is as good.
	holdChange(t, g, a, 1, gates.Gate{List: sooner, Admin: a, From: 10, Wait: true})
	holdAt(t, g, 9, sooner)
	holdAt(t, g, 10, a)
}

// P11.3: what isn't to come has no time; a gate's own list is told as it is.
func TestNotWaiting(t *testing.T) {
	old, other := list(0, 7, 1, 2), list(0, 10, 3, 1)
	g := &gates.Gate{List: clone(old), Admin: clone(other), From: 5}
	holdAt(t, g, 9, old)
	holdGate(t, g, gates.Gate{List: old, Admin: other, From: 5})
	for _, x := range wrongLists() {
		holdAt(t, &gates.Gate{List: clone(x.l)}, 3, x.l)
	}
	holdAt(t, &gates.Gate{}, 3, gates.List{})
	// From is asked alone, whatever was set.
	g = &gates.Gate{List: clone(old), Admin: clone(other), From: least, Wait: true}
	holdAt(t, g, least, other)
	holdGate(t, g, gates.Gate{List: other})
	g = &gates.Gate{List: clone(old), Admin: clone(other), From: most, Wait: true}
	holdAt(t, g, most-1, old)
	holdAt(t, g, most, other)
	g = &gates.Gate{List: clone(old), Wait: true}
	holdAt(t, g, 0, gates.List{})
}

// P11.3: the nil gate.
func TestNil(t *testing.T) {
	var g *gates.Gate
	for _, now := range []int{0, 5, -1, maxTime, maxTime + 1, most, least} {
		if got := g.At(now); got.Base != 0 || got.Cycle != 0 || len(got.Slots) != 0 {
			t.Errorf("At(%d) of none is %v", now, got)
		}
		if err := g.Change(list(0, 10, 1, 2), now); err != api.ErrArg {
			t.Errorf("Change of none at %d is %d", now, err)
		}
		for _, x := range wrongLists() {
			if err := g.Change(x.l, now); err != api.ErrArg {
				t.Errorf("Change of none to %v is %d", x.l, err)
			}
		}
	}
}

// scribble writes over a list's slots, and over the room behind them.
func scribble(l gates.List) {
	slots := l.Slots[:cap(l.Slots)]
	for i := range slots {
		slots[i] = gates.Slot{Open: 129, Len: 9}
	}
}

// P11.3: neither what Change was handed nor what At answered is the gate's own memory.
func TestOwnMemory(t *testing.T) {
	old, l := list(0, 7, 1, 2), list(0, 10, 3, 1, 1, 5)
	handed := clone(l)
	handed.Slots = append(make([]gates.Slot, 0, 9), handed.Slots...)
	behind := handed.Slots[:9]
	behind[8] = gates.Slot{Open: 77, Len: 77}
	g := &gates.Gate{List: clone(old)}
	holdChange(t, g, handed, 11, gates.Gate{List: old, Admin: l, From: 20, Wait: true})
	if !equal(handed, l) || behind[8] != (gates.Slot{Open: 77, Len: 77}) {
		t.Error("Change has changed what it was handed:", handed, behind)
	}
	scribble(handed)
	holdGate(t, g, gates.Gate{List: old, Admin: l, From: 20, Wait: true})
	scribble(g.At(19))
	holdGate(t, g, gates.Gate{List: old, Admin: l, From: 20, Wait: true})
	for range 2 {
		scribble(g.At(20))
		holdGate(t, g, gates.Gate{List: l})
	}
	a, b := g.At(20), g.At(20)
	scribble(a)
	if !equal(b, l) {
		t.Error("two answers share memory")
	}
	// Two gates that were handed one list never meet.
	one, two := &gates.Gate{}, &gates.Gate{}
	one.Change(l, 0)
	two.Change(l, 0)
	scribble(one.Admin)
	holdAt(t, two, 0, l)
}

// P11.2: what a list is asked changes nothing of it.
func TestAskedChangesNothing(t *testing.T) {
	l := list(5, 10, 3, 1, 1, 5)
	was := clone(l)
	for at := -20; at < 40; at++ {
		l.State(at)
		l.Turn(at)
		for gate := -1; gate < 9; gate++ {
			l.Left(at, gate)
			l.Next(at, gate)
		}
	}
	if !equal(l, was) {
		t.Errorf("%v has become %v", was, l)
	}
}
