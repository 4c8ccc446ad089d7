package world_test

import (
	"math/rand"
	"strconv"
	"testing"

	"sandglass/rate"
	"sandglass/world"
)

// holdSame holds two worlds that must have become the same.
func holdSame(t *testing.T, v, w *world.World) {
	t.Helper()
	for _, c := range []struct {
		what string
		a, b any
	}{
		{"Now", v.Now(), w.Now()},
		{"Sent", v.Sent(), w.Sent()},
		{"Got", v.Got(), w.Got()},
		{"Others", v.Others(), w.Others()},
		{"Lost", v.Lost(), w.Lost()},
	} {
		if text(c.a) != text(c.b) {
			t.Errorf("at %d %s is %+v and %+v", v.Now(), c.what, c.a, c.b)
		}
	}
	for i := range 17 {
		a, aok := v.Time(i)
		b, bok := w.Time(i)
		if a != b || aok != bok {
			t.Errorf("at %d Time(%d) is %d, %v and %d, %v", v.Now(), i, a, aok, b, bok)
		}
		for d := range 2 {
			p, r := v.Roles(i, d)
			q, s := w.Roles(i, d)
			if p != q || text(r) != text(s) {
				t.Errorf("at %d Roles(%d, %d) is %+v, %v and %+v, %v", v.Now(), i, d, p, r, q, s)
			}
		}
		if (v.Node(i) == nil) != (w.Node(i) == nil) || v.Node(i).Counts() != w.Node(i).Counts() || v.Node(i).Places() != w.Node(i).Places() {
			t.Errorf("at %d node %d counts %v and %v", v.Now(), i, v.Node(i).Counts(), w.Node(i).Counts())
		}
	}
}

// pieces lets time go by in pieces, and asks the world all that can be asked in between.
func pieces(t *testing.T, r *rand.Rand, w *world.World, n int) {
	t.Helper()
	for n > 0 {
		x := min(n, 1+r.Intn(1+r.Intn(1+r.Intn(n))))
		do(t, w, world.Step{K: world.Run, N: x}, world.Step{K: world.Run})
		n -= x
		for i := range 16 {
			w.Time(i)
			w.Roles(i, r.Intn(2))
			w.Node(i).Counts()
		}
		w.Plan()
		w.Sent()
		w.Got()
		w.Others()
		w.Lost()
	}
}

// P25.7: the same script makes the same, in two worlds that go on by turns; as time goes by in one go and in many, and whoever looks on meanwhile.
func TestSame(t *testing.T) {
	for seed := range 12 {
		t.Run(strconv.Itoa(seed), func(t *testing.T) {
			t.Parallel()
			r := rand.New(rand.NewSource(int64(100 + seed)))
			s := anySetup(t, r)
			u, v, w := newWorld(t, s), newWorld(t, s), newWorld(t, s)
			for u.Now() < 400_000 {
				for _, x := range anySteps(t, r, s, u, seed%3 == 0) {
					if x.K == world.Run {
						x.N *= 10
						pieces(t, r, w, x.N)
					} else {
						do(t, w, x)
					}
					do(t, u, x)
					do(t, v, x)
				}
				holdSame(t, u, v)
				if t.Failed() {
					return
				}
			}
			holdSame(t, u, w)
		})
	}
}

// P25.7: to ask for a time leaves no trace, also where one domain's clock is held to the other one's until that is fresh no more: as no message comes any more, up to the next tick.
func TestAskedTimes(t *testing.T) {
	s := four()
	s.Plan.Every, s.Plan.Flows = 100_000, nil
	for i := range s.Clocks {
		// In domain 0 the best clock is node 0's, in domain 1 node 1's; they run unlike.
		s.Clocks[i].One = [2]int{i, (i + 3) % 4}
		s.Clocks[i].Turns[0].Rate += rate.Rate(i) << 30
	}
	v, w := newWorld(t, s), newWorld(t, s)
	for _, x := range []*world.World{v, w} {
		run(t, x, 2_000_000)
		do(t, x, world.Step{K: world.Lose, N: 1 << 20})
	}
	stale := 0
	for v.Now() < 2_500_000 {
		run(t, v, 10_000)
		for range 100 {
			run(t, w, 100)
			for i := range 4 {
				w.Time(i)
			}
		}
		holdSame(t, v, w)
		first, _ := v.Time(0)
		second, _ := v.Time(1)
		if far := second - first; far > 50*ns || far < -50*ns {
			stale++
		}
	}
	if stale < 5 {
		t.Errorf("node 1 told its own time %d times", stale)
	}
}
