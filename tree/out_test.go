package tree_test

import (
	"testing"

	"sandglass/api"
	"sandglass/best"
	"sandglass/ptp"
)

// P20.3: what was heard holds just for most, from the time on at which it was heard; also where the times are far from each other.
func TestBestOld(t *testing.T) {
	m := announce(root, 2, 99, 1, 7, 99)
	for _, far := range []int{1, 2, 100, 1 << 40} {
		for _, when := range []int{0, 1, -1, -100, 1 << 40, 1 << 62, -1 << 62, most, most - 1, most - far, most - far + 1, least, least + 1} {
			x := newTree(t, 3, own, 2, far)
			x.Up(0, true)
			x.Up(1, true)
			holdIn(t, x, 1, m, when, api.OK)
			holdBest(t, x, when, from(m, 1), master, slave)
			if when > least {
				holdBest(t, x, when-1, self, master, master)
				holdBest(t, x, least, self, master, master)
			}
			if when <= most-far {
				holdBest(t, x, when+far-1, from(m, 1), master, slave)
				holdBest(t, x, when+far, from(m, 1), master, slave)
			} else {
				holdBest(t, x, most, from(m, 1), master, slave)
			}
			if when < most-far {
				holdBest(t, x, when+far+1, self, master, master)
				holdBest(t, x, most, self, master, master)
			}
		}
	}
}

// P20.3: what is asked at one time tells nothing at another one: old is not forgotten.
func TestBestToAndFro(t *testing.T) {
	m := announce(root, 2, 99, 1, 7, 99)
	x := linked(t, 1)
	holdIn(t, x, 0, m, 1000, api.OK)
	for range 3 {
		holdBest(t, x, 1101, self, master)
		holdOut(t, x, 0, 4, 1101, announceOf(4, 0, own, 0, 50))
		holdBest(t, x, 1100, from(m, 0), slave)
		holdBest(t, x, 999, self, master)
		holdBest(t, x, 1000, from(m, 0), slave)
		holdNoOut(t, x, 0, 4, 1000)
	}
	// What comes then may have been heard ahead of that.
	n := announce(root, 1, 98, 1, 98)
	holdIn(t, x, 0, n, 500, api.OK)
	holdBest(t, x, 600, from(n, 0), slave)
	holdBest(t, x, 1000, self, master)
}

// P20.3: the ways of Choose: two ports at which the best is heard, a Passive one by the Id and the port, a port that is old.
func TestBestRoles(t *testing.T) {
	x := linked(t, 5)
	a, b := announce(root, 1, 60, 2, 60), announce(root, 1, 60, 3, 60)
	holdIn(t, x, 1, a, 0, api.OK)
	holdIn(t, x, 0, b, 0, api.OK)
	holdIn(t, x, 2, announce(root, 2, 49, 9, 49), 0, api.OK)
	holdIn(t, x, 3, announce(root, 2, 51, 0, 51), 0, api.OK)
	holdBest(t, x, 0, from(a, 1), passive, slave, passive, master, master)
	x.Up(1, false)
	holdBest(t, x, 0, from(b, 0), slave, off, passive, master, master)
	holdIn(t, x, 0, announce(root, 1, 60, 3, 60), -1, api.OK)
	holdBest(t, x, 100, from(announce(root, 2, 49, 9), 2), master, off, slave, passive, master)
	holdIn(t, x, 4, announce(ptp.Prior{One: 2}, 9, 1, 1, 1), 50, api.OK)
	holdBest(t, x, 100, from(announce(ptp.Prior{One: 2}, 9, 1, 1), 4), master, off, master, master, slave)
	holdBest(t, x, 101, from(announce(ptp.Prior{One: 2}, 9, 1, 1), 4), master, off, master, master, slave)
}

// P20.3: ports at which the same is heard: the first of them.
func TestBestSame(t *testing.T) {
	m := announce(root, 1, 60, 2, 60)
	x := linked(t, 4)
	for at := 3; at > 0; at-- {
		holdIn(t, x, at, m, at, api.OK)
	}
	holdBest(t, x, 3, from(m, 1), master, slave, passive, passive)
	holdBest(t, x, 2, from(m, 1), master, slave, passive, master)
	holdBest(t, x, 102, from(m, 2), master, master, slave, passive)
	holdBest(t, x, 103, from(m, 3), master, master, master, slave)
	holdBest(t, x, 104, self, master, master, master, master)
}

// P20.4: Out of the own clock: at each port whose link is there.
func TestOutOwn(t *testing.T) {
	x := newTree(t, 3, own, 8, 100)
	for at := range 8 {
		holdNoOut(t, x, at, 1, 0)
		x.Up(at, true)
		for _, now := range []int{0, -5, least, most} {
			holdOut(t, x, at, at, now, announceOf(at, at, own, 0, 50))
		}
	}
	for _, at := range places {
		holdNoOut(t, x, at, 1, 0)
	}
	x.Up(3, false)
	holdNoOut(t, x, 3, 1, 0)
	holdOut(t, x, 4, 1, 0, announceOf(1, 4, own, 0, 50))
	// What is heard of a clock that isn't better doesn't stand in the path.
	holdIn(t, x, 5, announce(worse, 3, 99, 1, 7, 8, 99), 0, api.OK)
	holdOut(t, x, 5, 1, 0, announceOf(1, 5, own, 0, 50))
	holdOut(t, x, 6, 1, 0, announceOf(1, 6, own, 0, 50))
}

// P20.4: Out of another clock: one step more, by the path of the port at which it is heard, not of another one.
func TestOutOther(t *testing.T) {
	x := linked(t, 5)
	m := announce(root, 4, 99, 1, 7, 8, 99)
	holdIn(t, x, 2, m, 0, api.OK)
	holdIn(t, x, 1, announce(root, 5, 30, 1, 9, 30), 0, api.OK)
	holdIn(t, x, 3, announce(root, 6, 31, 1, 10, 31), 0, api.OK)
	holdIn(t, x, 4, announce(worse, 0, 1, 1, 1), 0, api.OK)
	holdBest(t, x, 0, from(m, 2), master, passive, slave, master, master)
	for _, at := range []int{0, 3, 4} {
		holdOut(t, x, at, 9, 0, announceOf(9, at, root, 5, 7, 8, 99, 50))
	}
	for _, at := range append([]int{1, 2, 5}, places...) {
		holdNoOut(t, x, at, 9, 0)
	}
	// Once it is old, the others tell.
	holdIn(t, x, 1, announce(root, 5, 30, 1, 9, 30), 50, api.OK)
	holdOut(t, x, 2, 9, 101, announceOf(9, 2, root, 6, 9, 30, 50))
	holdOut(t, x, 2, 9, 151, announceOf(9, 2, own, 0, 50))
}

// P20.4: a Seq with which the message would not be right; the ends.
func TestOutSeq(t *testing.T) {
	x := linked(t, 2)
	hold := func(p ptp.Prior, steps int, path ...int) {
		t.Helper()
		for _, seq := range []int{0, 1, 65534, 65535} {
			holdOut(t, x, 1, seq, 0, announceOf(seq, 1, p, steps, path...))
		}
		for _, seq := range []int{-1, 65536, 65537, 1 << 32, least, most} {
			holdNoOut(t, x, 1, seq, 0)
		}
	}
	hold(own, 0, 50)
	holdIn(t, x, 0, announce(root, 2, 99, 1, 7, 99), 0, api.OK)
	hold(root, 3, 7, 99, 50)
	for _, seq := range []int{0, -1, 65536} {
		holdNoOut(t, x, 0, seq, 0)
	}
}

// P20.4: the furthest that can be told: 255 steps, a path of 32; nobody hears of it.
func TestOutFurthest(t *testing.T) {
	x := linked(t, 2)
	path := ids(31, nil)
	holdIn(t, x, 0, announce(root, 254, 99, 1, path...), 0, api.OK)
	told := announceOf(4, 1, root, 255, append(path, 50)...)
	holdOut(t, x, 1, 4, 0, told)
	next := newTree(t, 3, worse, 1, 100)
	next.Up(0, true)
	holdIn(t, next, 0, told, 0, api.ErrOrder)
	told.Steps, told.Path = 254, told.Path[:31]
	holdIn(t, next, 0, told, 0, api.OK)
}

// P20.3, P20.4: what is best is told as Best says it, also with the own Id in it, or one that is as good but for the Id.
func TestOutRoot(t *testing.T) {
	for _, p := range []ptp.Prior{{}, {One: 5, Class: 5, Two: 5, Id: 49}, {One: 5, Class: 5, Two: 4, Id: 50}, {One: 5, Class: 4, Two: 255, Id: mostId}, {One: 4, Class: 255, Two: 255, Id: mostId}} {
		x := linked(t, 2)
		m := announce(p, 0, 99, 1, 99)
		holdIn(t, x, 0, m, 0, api.OK)
		holdBest(t, x, 0, from(m, 0), slave, master)
		holdOut(t, x, 1, 4, 0, announceOf(4, 1, p, 1, 99, 50))
	}
	for _, p := range []ptp.Prior{own, {One: 5, Class: 5, Two: 5, Id: 51}, {One: 5, Class: 5, Two: 6, Id: 0}, {One: 5, Class: 6}, {One: 6}} {
		x := linked(t, 2)
		holdIn(t, x, 0, announce(p, 0, 1, 1, 1), 0, api.OK)
		holdBest(t, x, 0, self, master, master)
		holdOut(t, x, 0, 4, 0, announceOf(4, 0, own, 0, 50))
	}
}

// P20.4: what is answered shares no memory: two answers, and what was handed in.
func TestOutShares(t *testing.T) {
	x := linked(t, 3)
	path := append(make([]int, 0, 40), 7, 8, 9, 10, 99)
	m := announce(root, 4, 99, 1)
	m.Path = path
	holdIn(t, x, 2, m, 0, api.OK)
	a, _ := x.Out(0, 1, 0)
	b, _ := x.Out(1, 1, 0)
	a.Path = append(a.Path, 1, 2)
	for i := range a.Path {
		a.Path[i] = 66
	}
	for _, got := range []ptp.Msg{b, m} {
		for _, id := range got.Path[:cap(got.Path)] {
			if id == 66 {
				t.Errorf("%v has something of another one", got.Path[:cap(got.Path)])
			}
		}
	}
	holdOut(t, x, 0, 1, 0, announceOf(1, 0, root, 5, 7, 8, 9, 10, 99, 50))
	holdOut(t, x, 1, 1, 0, announceOf(1, 1, root, 5, 7, 8, 9, 10, 99, 50))
	holdBest(t, x, 0, best.Vec{Root: root, Steps: 4, From: 99, Port: 1, At: 2}, master, master, slave)
}
