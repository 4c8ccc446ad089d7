package world_test

import (
	"math/rand"
	"slices"
	"strconv"
	"testing"

	"sandglass/api"
	"sandglass/bridge"
	"sandglass/ether"
	"sandglass/osc"
	"sandglass/plan"
	"sandglass/ptp"
	"sandglass/rate"
	"sandglass/world"
)

// anyOf is one of some.
func anyOf[T any](r *rand.Rand, list ...T) T { return list[r.Intn(len(list))] }

// anySetup is a small network with a name whose times are short, with clocks that run as they like.
func anySetup(t *testing.T, r *rand.Rand) world.Setup {
	t.Helper()
	for {
		kind := r.Intn(3)
		c, _ := plan.Named(kind, []int{1, 4, 2}[kind])
		c.Every = anyOf(r, 6000, 11_000, 23_000)
		c.Cycle = 30_000 + r.Intn(30_000)
		c.Ppm, c.Grain, c.Proc = anyOf(r, 0, 100), anyOf(r, 1, 8, 100), anyOf(r, 0, 1, 1000)
		low := r.Intn(300)
		for i := range c.Links {
			c.Links[i].Low, c.Links[i].High = low, low+r.Intn(30)
		}
		c.Flows = c.Flows[:1+r.Intn(4)]
		for i := range c.Flows {
			c.Flows[i].Start, c.Flows[i].Len, c.Flows[i].Size = 3000+r.Intn(c.Cycle), r.Intn(2000), 64+r.Intn(100)
		}
		for i := range c.Nodes {
			c.Nodes[i].Ports++
		}
		if _, err := plan.Make(c); err != api.OK {
			continue
		}
		s := clocks(c)
		s.Reset = anyOf(r, 1, 1000, 100_000, maxTime)
		start, far := anyOf(r, 1, 100, 1_000_000, 1<<32+1), anyOf(r, 0, 1<<28, 1<<34)
		for i := range s.Clocks {
			s.Clocks[i].Start = r.Intn(start)
			s.Clocks[i].One = [2]int{r.Intn(4), r.Intn(4)}
			s.Clocks[i].Turns = nil
			for at := 0; at == 0 || r.Intn(3) > 0; at += 1 + r.Intn(100_000) {
				s.Clocks[i].Turns = append(s.Clocks[i].Turns, osc.Turn{At: at, Rate: rate.One + rate.Rate(r.Intn(2*far+1)-far)})
			}
		}
		for i, l := range c.Links {
			for side := range 2 {
				s.Delays[i][side] = l.Low + r.Intn(l.High-l.Low+1)
			}
		}
		return s
	}
}

// anyBytes is what a guest may bring.
func anyBytes(t *testing.T, r *rand.Rand) []byte {
	t.Helper()
	f := ether.Frame{Dst: anyOf(r, all, place, ether.Of(77), world.FlowMac(0), world.FlowMac(1)), Src: ether.Of(70 + r.Intn(10)), Type: 0x900, Data: make([]byte, r.Intn(300))}
	r.Read(f.Data)
	if r.Intn(2) == 0 {
		f.Tagged, f.Vid, f.Prio, f.Drop = true, r.Intn(5), r.Intn(8), r.Intn(2) == 0
	}
	if r.Intn(4) == 0 {
		f.Many, f.Seq = true, r.Intn(5)
	}
	x := encode(t, f)
	switch r.Intn(12) {
	case 0:
		x = carry(t, ptp.Msg{Kind: ptp.Req, Seq: r.Intn(4), Src: 99})
	case 1:
		x = carry(t, ptp.Msg{Kind: anyOf(r, ptp.Sync, ptp.Follow, ptp.Announce, ptp.Resp), Seq: r.Intn(4), Src: 99})
	case 2:
		x[r.Intn(len(x))]++
	case 3:
		x = x[:r.Intn(64)]
	}
	return x
}

// anySteps are steps that are taken; in a calm run nothing goes.
func anySteps(t *testing.T, r *rand.Rand, s world.Setup, w *world.World, calm bool) []world.Step {
	t.Helper()
	n := r.Intn(len(s.Plan.Nodes))
	ports := s.Plan.Nodes[n].Ports
	switch k := r.Intn(60); {
	case k < 10 && w.Node(n) != nil:
		return []world.Step{{K: world.Guest, N: n, I: ports - 1, Bytes: anyBytes(t, r)}}
	case k < 22 && w.Node(n) != nil && !s.Plan.Nodes[n].Bridge:
		data := make([]byte, r.Intn(400))
		r.Read(data)
		x := world.Step{K: world.Say, N: n, I: r.Intn(ports), P: r.Intn(6), To: anyOf(r, all, place, ether.Of(1), ether.Of(3), world.FlowMac(0)), Bytes: data}
		if r.Intn(30) == 0 {
			return slices.Repeat([]world.Step{x}, 20)
		}
		return []world.Step{x}
	case calm:
	case k < 25:
		return []world.Step{{K: world.Cut, N: r.Intn(len(s.Plan.Links))}}
	case k < 28:
		return []world.Step{{K: world.Join, N: r.Intn(len(s.Plan.Links))}}
	case k < 29 && r.Intn(5) == 0:
		return []world.Step{{K: world.Kill, N: n}}
	case k < 31:
		return []world.Step{{K: world.Lose, N: r.Intn(anyOf(r, 10, 10, 1000))}}
	}
	return []world.Step{{K: world.Run, N: r.Intn(anyOf(r, 10, 1000, 4000))}}
}

// holdPlain holds a world against a plain one.
func holdPlain(t *testing.T, w *world.World, p *plain) {
	t.Helper()
	for _, c := range []struct {
		what string
		a, b any
	}{
		{"Now", w.Now(), p.now}, {"Lost", w.Lost(), p.lost}, {"Sent", w.Sent(), p.sent}, {"Got", w.Got(), p.got}, {"Others", w.Others(), p.others},
	} {
		if text(c.a) != text(c.b) {
			t.Fatalf("at %d %s is %+v, not %+v", w.Now(), c.what, c.a, c.b)
		}
	}
	holdNodes(t, w, p)
}

// holdNodes holds how a world's nodes stand against a plain one's, and how much happened.
func holdNodes(t *testing.T, w *world.World, p *plain) {
	t.Helper()
	if a, b := [3]int{len(w.Sent()), len(w.Got()), len(w.Others())}, [3]int{len(p.sent), len(p.got), len(p.others)}; a != b || w.Lost() != p.lost {
		t.Fatalf("at %d there are %v, %v, not %v, %v", w.Now(), a, w.Lost(), b, p.lost)
	}
	for i, n := range p.nodes {
		if (w.Node(i) == nil) != (n.self == nil) {
			t.Fatalf("at %d node %d is dead, or isn't", w.Now(), i)
		}
		if n.self == nil {
			holdNoNode(t, w, i)
			continue
		}
		a, aok := w.Time(i)
		b, bok := p.time(i)
		if a != b || aok != bok {
			t.Fatalf("at %d Time(%d) is %d, %v, not %d, %v", w.Now(), i, a, aok, b, bok)
		}
		for d := range 2 {
			x, y := w.Roles(i, d)
			v, u := n.self.Roles(d, p.told(i))
			if x != v || text(y) != text(u) {
				t.Fatalf("at %d Roles(%d, %d) is %+v, %v, not %+v, %v", w.Now(), i, d, x, y, v, u)
			}
		}
		if a, b := w.Node(i).Counts(), n.self.Counts(); a != b {
			t.Fatalf("at %d node %d counts %v, not %v", w.Now(), i, a, b)
		}
	}
}

// tally is how often what happened in all runs.
type tally struct {
	sent, got, others int
	lost              [3]int
	whys              [bridge.Whys]int
}

// P25.3 to P25.7: in long runs all is as in a plain world that is looked at in each nanosecond; each of its frames comes to one end.
func TestPlain(t *testing.T) {
	sums := make(chan tally, 100)
	const runs = 50
	t.Run("runs", func(t *testing.T) {
		for seed := range runs {
			t.Run(strconv.Itoa(seed), func(t *testing.T) {
				t.Parallel()
				sums <- holdRun(t, rand.New(rand.NewSource(int64(seed))))
			})
		}
	})
	if t.Failed() {
		return
	}
	var all tally
	for range runs {
		x := <-sums
		all.sent, all.got, all.others = all.sent+x.sent, all.got+x.got, all.others+x.others
		for i, n := range x.lost {
			all.lost[i] += n
		}
		for i, n := range x.whys {
			all.whys[i] += n
		}
	}
	t.Logf("%+v", all)
	if all.sent < 300 || all.got < 150 || all.others < 1000 || all.lost[world.Full] < 10 || all.lost[world.Gone] < 1000 || all.lost[world.Chance] < 100 || all.whys[bridge.Vlan] < 50 {
		t.Errorf("too little happened: %+v", all)
	}
}

// holdRun holds one run of any steps.
func holdRun(t *testing.T, r *rand.Rand) tally {
	t.Helper()
	s := anySetup(t, r)
	w, p := newWorld(t, s), newPlain(t, s)
	sum := tally{}
	calm := r.Intn(2) == 0
	for w.Now() < 300_000 {
		for _, x := range anySteps(t, r, s, w, calm) {
			if x.K == world.Kill && w.Node(x.N) != nil {
				for i, n := range w.Node(x.N).Counts() {
					sum.whys[i] += n
				}
			}
			do(t, w, x)
			p.do(x)
			holdNodes(t, w, p)
		}
	}
	holdPlain(t, w, p)
	for id, n := range p.fates {
		if n > 1 {
			t.Errorf("frame %d came to %d ends", id, n)
		}
	}
	for i := range s.Plan.Nodes {
		for k, n := range w.Node(i).Counts() {
			sum.whys[k] += n
		}
	}
	sum.sent, sum.got, sum.others, sum.lost = len(w.Sent()), len(w.Got()), len(w.Others()), w.Lost()
	return sum
}
