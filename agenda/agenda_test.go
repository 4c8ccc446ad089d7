package agenda_test

import (
	"math"
	"testing"

	"sandglass/agenda"
	"sandglass/api"
)

const (
	most    = math.MaxInt
	least   = math.MinInt
	maxTime = 1 << 40
)

// holdPut holds a Put against its number, or its error.
func holdPut[T any](t *testing.T, a *agenda.Agenda[T], at int, what T, turn int, want api.Errno) {
	t.Helper()
	if got, err := a.Put(at, what); got != turn || err != want {
		t.Errorf("Put(%d) is %d, %d, not %d, %d", at, got, err, turn, want)
	}
}

// holdNext holds a Next against what comes.
func holdNext[T comparable](t *testing.T, a *agenda.Agenda[T], limit, at, turn int, what T) {
	t.Helper()
	gotAt, got, gotWhat, ok := a.Next(limit)
	if gotAt != at || got != turn || gotWhat != what || !ok {
		t.Errorf("Next(%d) is %d, %d, %v, %v, not %d, %d, %v", limit, gotAt, got, gotWhat, ok, at, turn, what)
	}
	if a.Now() != at {
		t.Errorf("Now is %d behind what came at %d", a.Now(), at)
	}
}

// holdNothing holds a Next against that nothing comes, and that it changes nothing.
func holdNothing[T comparable](t *testing.T, a *agenda.Agenda[T], limit int) {
	t.Helper()
	var none T
	now, count := a.Now(), a.Len()
	if at, turn, what, ok := a.Next(limit); at != 0 || turn != 0 || what != none || ok {
		t.Errorf("Next(%d) is %d, %d, %v, %v, not nothing", limit, at, turn, what, ok)
	}
	if a.Now() != now || a.Len() != count {
		t.Errorf("Next(%d) of nothing has changed Now to %d, Len to %d", limit, a.Now(), a.Len())
	}
}

// holdState holds an agenda against its time, and how much is to come.
func holdState[T any](t *testing.T, a *agenda.Agenda[T], now, count int) {
	t.Helper()
	if a.Now() != now || a.Len() != count {
		t.Errorf("Now is %d, Len %d, not %d, %d", a.Now(), a.Len(), now, count)
	}
}

// P8.1: a new one; numbers from 1 on, in the order of Put.
func TestPut(t *testing.T) {
	a := agenda.New[string]()
	if a == nil {
		t.Fatal("New is nil")
	}
	holdState(t, a, 0, 0)
	holdNothing(t, a, most)
	for i, at := range []int{5, 3, 5, 0, maxTime, maxTime - 1, 0} {
		holdPut(t, a, at, "", i+1, api.OK)
		holdState(t, a, 0, i+1)
	}
	// Another one has its own numbers and its own time.
	b := agenda.New[string]()
	holdState(t, b, 0, 0)
	holdPut(t, b, 9, "b", 1, api.OK)
	holdNext(t, b, 9, 9, 1, "b")
	holdState(t, a, 0, 7)
}

// P8.1: times that are wrong, at the ends and beyond; what is refused has no number and isn't to come.
func TestPutWrong(t *testing.T) {
	a := agenda.New[int]()
	for _, x := range []struct {
		at   int
		want api.Errno
	}{
		{maxTime + 1, api.ErrArg}, {maxTime + 2, api.ErrArg}, {1 << 41, api.ErrArg}, {most, api.ErrArg},
		{-1, api.ErrOrder}, {-maxTime, api.ErrOrder}, {least, api.ErrOrder},
	} {
		holdPut(t, a, x.at, 7, 0, x.want)
		holdState(t, a, 0, 0)
	}
	holdPut(t, a, 100, 1, 1, api.OK)
	holdNext(t, a, 100, 100, 1, 1)
	for _, at := range []int{99, 0, -1, least} {
		holdPut(t, a, at, 7, 0, api.ErrOrder)
	}
	holdPut(t, a, maxTime+1, 7, 0, api.ErrArg)
	holdState(t, a, 100, 0)
	holdPut(t, a, 100, 2, 2, api.OK)
	holdPut(t, a, 101, 3, 3, api.OK)
	holdPut(t, a, maxTime, 4, 4, api.OK)
	holdNext(t, a, most, 100, 2, 2)
	holdNext(t, a, most, 101, 3, 3)
	holdNext(t, a, most, maxTime, 4, 4)
	holdPut(t, a, maxTime-1, 7, 0, api.ErrOrder)
	holdPut(t, a, maxTime+1, 7, 0, api.ErrArg)
	holdPut(t, a, maxTime, 5, 5, api.OK)
	holdNext(t, a, maxTime, maxTime, 5, 5)
}

// P8.1: the 8192nd is put, the 8193rd isn't, until one came or was dropped; other errors go ahead.
func TestPutFull(t *testing.T) {
	a := agenda.New[int]()
	holdPut(t, a, 10, 0, 1, api.OK)
	holdNext(t, a, 10, 10, 1, 0)
	for i := range 8192 {
		holdPut(t, a, 11+i%5, i, i+2, api.OK)
	}
	holdState(t, a, 10, 8192)
	holdPut(t, a, 11, 7, 0, api.ErrFull)
	holdPut(t, a, maxTime, 7, 0, api.ErrFull)
	holdPut(t, a, 10, 7, 0, api.ErrFull)
	holdPut(t, a, 9, 7, 0, api.ErrOrder)
	holdPut(t, a, maxTime+1, 7, 0, api.ErrArg)
	holdState(t, a, 10, 8192)
	holdNext(t, a, 11, 11, 2, 0)
	holdPut(t, a, 11, 8192, 8194, api.OK)
	holdPut(t, a, 11, 7, 0, api.ErrFull)
	if !a.Drop(3) {
		t.Error("what has number 3 isn't dropped")
	}
	holdPut(t, a, 11, 8193, 8195, api.OK)
	holdPut(t, a, 11, 7, 0, api.ErrFull)
	holdState(t, a, 11, 8192)
	if agenda.Most != 8192 {
		t.Error("Most is", agenda.Most)
	}
}

// P8.1: Drop of what is to come, of what came, of what was dropped, of what was never put, of what was refused.
func TestDrop(t *testing.T) {
	a := agenda.New[string]()
	for i, what := range []string{"a", "b", "c", "d", "e"} {
		holdPut(t, a, 5-i%2, what, i+1, api.OK)
	}
	holdPut(t, a, -1, "f", 0, api.ErrOrder)
	holdNext(t, a, 5, 4, 2, "b")
	for _, x := range []struct {
		turn int
		want bool
		left int
	}{
		{2, false, 4},                                                                     // it came
		{6, false, 4}, {0, false, 4}, {-1, false, 4}, {most, false, 4}, {least, false, 4}, // never put
		{4, true, 3}, {4, false, 3}, // what comes next
		{5, true, 2}, {5, false, 2}, // what comes last
		{1, true, 1}, {3, true, 0}, {3, false, 0}, {1, false, 0},
	} {
		if got := a.Drop(x.turn); got != x.want || a.Len() != x.left || a.Now() != 4 {
			t.Errorf("Drop(%d) is %v, Len then %d, Now %d", x.turn, got, a.Len(), a.Now())
		}
	}
	holdNothing(t, a, most)
	// The numbers go on behind what was dropped.
	holdPut(t, a, 4, "g", 6, api.OK)
	holdNext(t, a, 4, 4, 6, "g")
}

// P8.2: by time, of one time by number; the document's example.
func TestNext(t *testing.T) {
	a := agenda.New[string]()
	for i, what := range []string{"a", "b", "c"} {
		holdPut(t, a, []int{5, 3, 5}[i], what, i+1, api.OK)
	}
	holdNext(t, a, 9, 3, 2, "b")
	holdNext(t, a, 9, 5, 1, "a")
	// What is put now at that time comes behind what was put ahead of it.
	holdPut(t, a, 5, "d", 4, api.OK)
	holdNext(t, a, 9, 5, 3, "c")
	holdNext(t, a, 9, 5, 4, "d")
	holdNothing(t, a, 9)
	holdState(t, a, 5, 0)
}

// P8.2: many at one time come as they were put, whatever else there is.
func TestNextOneTime(t *testing.T) {
	a := agenda.New[int]()
	for i := range 3000 {
		holdPut(t, a, 7-i%3, i, i+1, api.OK)
	}
	for left := range 3 {
		for i := 2 - left; i < 3000; i += 3 {
			holdNext(t, a, 7, 5+left, i+1, i)
		}
	}
	holdState(t, a, 7, 0)
}

// P8.2: at its limit it comes, one below it doesn't; limits at the ends.
func TestNextLimit(t *testing.T) {
	a := agenda.New[string]()
	holdPut(t, a, 0, "nought", 1, api.OK)
	holdPut(t, a, 7, "seven", 2, api.OK)
	holdPut(t, a, maxTime, "end", 3, api.OK)
	holdNothing(t, a, -1)
	holdNothing(t, a, least)
	holdNext(t, a, 0, 0, 1, "nought")
	holdNothing(t, a, 6)
	holdNothing(t, a, 0)
	holdNothing(t, a, -5)
	holdState(t, a, 0, 2)
	holdNext(t, a, 7, 7, 2, "seven")
	holdNothing(t, a, 6)
	holdNothing(t, a, maxTime-1)
	holdNext(t, a, maxTime, maxTime, 3, "end")
	holdNothing(t, a, maxTime)
	holdNothing(t, a, most)
	holdState(t, a, maxTime, 0)
}

// holdWait holds a Wait against the time behind it.
func holdWait[T any](t *testing.T, a *agenda.Agenda[T], at, want int) {
	t.Helper()
	count := a.Len()
	if got := a.Wait(at); got != want {
		t.Errorf("Wait(%d) is %d, not %d", at, got, want)
	}
	holdState(t, a, want, count)
}

// P8.2: Wait: not behind what comes next, nor behind MaxTime, nor ahead of Now.
func TestWait(t *testing.T) {
	a := agenda.New[int]()
	holdWait(t, a, -1, 0)
	holdWait(t, a, least, 0)
	holdWait(t, a, 0, 0)
	holdWait(t, a, 5, 5)
	holdWait(t, a, 4, 5)
	holdWait(t, a, -7, 5)
	holdPut(t, a, 4, 0, 0, api.ErrOrder)
	holdPut(t, a, 9, 1, 1, api.OK)
	holdPut(t, a, 7, 2, 2, api.OK)
	holdWait(t, a, 6, 6)
	holdWait(t, a, 7, 7)
	holdWait(t, a, 8, 7)
	holdWait(t, a, most, 7)
	holdWait(t, a, 6, 7)
	holdPut(t, a, 6, 0, 0, api.ErrOrder)
	holdPut(t, a, 7, 3, 3, api.OK)
	holdNext(t, a, 7, 7, 2, 2)
	holdWait(t, a, 8, 7)
	holdNext(t, a, 7, 7, 3, 3)
	holdWait(t, a, 8, 8)
	if !a.Drop(1) {
		t.Error("what has number 1 isn't dropped")
	}
	holdWait(t, a, 20, 20)
	holdWait(t, a, maxTime-1, maxTime-1)
	holdWait(t, a, maxTime+1, maxTime)
	holdWait(t, a, most, maxTime)
	holdWait(t, a, 3, maxTime)
	holdPut(t, a, maxTime, 4, 4, api.OK)
	holdNext(t, a, maxTime, maxTime, 4, 4)

	b := agenda.New[int]()
	holdWait(t, b, most, maxTime)
	c := agenda.New[int]()
	holdPut(t, c, maxTime, 1, 1, api.OK)
	holdWait(t, c, most, maxTime)
	holdNext(t, c, maxTime, maxTime, 1, 1)
}

// P8.1, P8.2: the nil agenda has nothing.
func TestNilAgenda(t *testing.T) {
	var a *agenda.Agenda[string]
	for _, at := range []int{0, 5, -1, maxTime, maxTime + 1, most, least} {
		holdPut(t, a, at, "x", 0, api.ErrArg)
		holdNothing(t, a, at)
		if a.Drop(at) {
			t.Errorf("Drop(%d) of none is true", at)
		}
		holdWait(t, a, at, 0)
	}
	holdState(t, a, 0, 0)
}

// P8.1: one that New didn't make is an empty one too, and none of its calls panics.
func TestZeroAgenda(t *testing.T) {
	var a agenda.Agenda[string]
	holdState(t, &a, 0, 0)
	holdNothing(t, &a, most)
	holdWait(t, &a, 3, 3)
	holdPut(t, &a, 4, "x", 1, api.OK)
	holdNext(t, &a, 4, 4, 1, "x")
}
