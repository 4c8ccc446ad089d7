package world_test

import (
	"math/big"
	"testing"

	"sandglass/api"
	"sandglass/best"
	"sandglass/osc"
	"sandglass/plan"
	"sandglass/rate"
	"sandglass/world"
)

// pair is two stations with one link, whose clocks run as turns say, and no flows; the link takes so long each way.
func pair(every int, delay [2]int, turns [2][]osc.Turn) world.Setup {
	s := clocks(plan.Conf{
		Nodes: []plan.Node{{Ports: 1}, {Ports: 1}},
		Links: []plan.Link{{Ends: [2]plan.End{{}, {Node: 1}}, High: 1 << 20}},
		Cycle: 1000, Every: every, Grain: 1,
	})
	s.Delays[0] = delay
	for i := range turns {
		s.Clocks[i].Turns = turns[i]
	}
	return s
}

// lostAt lets time go by in steps of 1 ns: when one more frame was lost for a reason, as often as so many were.
func lostAt(t *testing.T, w *world.World, why, until int) []int {
	t.Helper()
	var list []int
	before := w.Lost()[why]
	for w.Now() < until {
		run(t, w, 1)
		for after := w.Lost()[why]; before < after; before++ {
			list = append(list, w.Now())
		}
	}
	return list
}

// tellsAt is what a clock of one rate tells at a true time, in parts of 2^16 of a nanosecond.
func tellsAt(r rate.Rate, at int) int {
	x := new(big.Int).Mul(big.NewInt(int64(r)), big.NewInt(int64(at)))
	return int(x.Rsh(x, 25).Int64())
}

// P25.3: node i ticks first at 1000 (i + 1), then each time its clock tells Every more than at the tick ahead: as it runs fast or slow. In a tick seven messages go out one behind the other, for 8 nanoseconds a byte each, and come in at the link's delay on that way.
func TestTicks(t *testing.T) {
	const every = 7919
	for _, rates := range [][2]rate.Rate{
		{rate.One, rate.One},
		{rate.One + rate.Most, rate.One - rate.Most},
		{rate.One - rate.Most, rate.One + 1},
		{rate.One - 1, rate.One + 3333333333},
	} {
		delay := [2]int{100_000, 0}
		w := newWorld(t, pair(every, delay, [2][]osc.Turn{{{Rate: rates[0]}}, {{Rate: rates[1]}}}))
		do(t, w, world.Step{K: world.Lose, N: 1 << 20})
		var want []int
		const until = 300_000
		for i, r := range rates {
			for at := 1000 * (i + 1); at < until; {
				for k := range 7 {
					if in := at + small*(k+1) + delay[i]; in <= until {
						want = append(want, in)
					}
				}
				told := tellsAt(r, at)
				for tellsAt(r, at)-told < every<<16 {
					at++
				}
			}
		}
		got := lostAt(t, w, world.Chance, until)
		if text(sorted(want)) != text(got) {
			t.Errorf("with rates %v messages come at %v, not %v", rates, got, sorted(want))
		}
	}
}

// sorted is numbers by their rising order.
func sorted(list []int) []int {
	var rising []int
	for _, x := range list {
		k := len(rising)
		for k > 0 && rising[k-1] > x {
			k--
		}
		rising = append(rising[:k], append([]int{x}, rising[k:]...)...)
	}
	return rising
}

// P25.3: the rate turns between two ticks.
func TestTickTurns(t *testing.T) {
	// 5000 ns by the clock behind 1000 are 4000 ns at One, then by 1/128 more or fewer.
	for _, c := range []struct {
		more rate.Rate
		want int
	}{{rate.Most, 5000 + 993}, {-rate.Most, 5000 + 1008}} {
		turns := []osc.Turn{{Rate: rate.One}, {At: 5000, Rate: rate.One + c.more}}
		w := newWorld(t, pair(5000, [2]int{0, 1 << 20}, [2][]osc.Turn{turns, {{Rate: rate.One}}}))
		do(t, w, world.Step{K: world.Lose, N: 1 << 20})
		got := lostAt(t, w, world.Chance, 9000)
		if len(got) < 8 || got[0] != 1000+small || got[7] != c.want+small {
			t.Errorf("messages come at %v, the second tick is at %d", got, c.want)
		}
	}
}

// P25.3, P25.6: a node has a time from its first tick on: at first its own clock's.
func TestFirstTick(t *testing.T) {
	s := four()
	for i := range s.Clocks {
		s.Clocks[i].Start = 1_000_000 * i
	}
	w := newWorld(t, s)
	for i := range 4 {
		to(t, w, 1000*(i+1)-1)
		if x, ok := w.Time(i); x != 0 || ok {
			t.Errorf("ahead of its first tick node %d has the time %d, %v", i, x, ok)
		}
		run(t, w, 1)
		if x, ok := w.Time(i); int(x/ns) != 1_000_000*i+1000*(i+1) || !ok {
			t.Errorf("at its first tick node %d has the time %d, %v", i, x, ok)
		}
	}
}

// P25.3: questions are answered at once, and what goes out and comes in is marked with the clock's Grain: so a link's delay is known behind two ticks, if both ways are alike.
func TestDelay(t *testing.T) {
	for _, c := range []struct {
		delay [2]int
		grain int
		want  int // by the first node, behind two ticks of its own
	}{
		{[2]int{700, 700}, 1, 700},
		{[2]int{700, 700}, 100, 700},
		{[2]int{0, 0}, 1, 0},
		{[2]int{500, 900}, 1, 700},
		{[2]int{900, 500}, 1, 700},
		{[2]int{10_240, 20_480}, 1, 15_360},
	} {
		s := pair(50_000, c.delay, [2][]osc.Turn{{{Rate: rate.One}}, {{Rate: rate.One}}})
		s.Plan.Grain = c.grain
		w := newWorld(t, s)
		run(t, w, 51_000)
		if x, ok := w.Node(0).Able(0); x != 0 || ok {
			t.Errorf("%+v: behind one answer the delay is %d, %v", c, x, ok)
		}
		run(t, w, 39_000)
		x, ok := w.Node(0).Able(0)
		if far := int(x/ns) - c.want; !ok || far <= -c.grain || far >= c.grain {
			t.Errorf("%+v: the delay is %d ns, %v", c, x/ns, ok)
		}
	}
}

// P25.3, P25.9: of two nodes the better clock's time is told to the other one; roles are what layer 19 has.
func TestTwoClocks(t *testing.T) {
	for _, better := range []int{0, 1} {
		s := pair(50_000, [2]int{300, 300}, [2][]osc.Turn{{{Rate: rate.One + rate.Most/100}}, {{Rate: rate.One - rate.Most/100}}})
		s.Clocks[0].Start = 1 << 32
		s.Clocks[1-better].One = [2]int{1, 1}
		w := newWorld(t, s)
		run(t, w, world.Settled(s.Plan))
		for d := range 2 {
			for i := range 2 {
				p, roles := w.Roles(i, d)
				want := best.Slave
				if i == better {
					want = best.Master
				}
				if p.Id != better+1 || len(roles) != 1 || roles[0] != want {
					t.Errorf("node %d's roles in domain %d are %+v, %v", i, d, p, roles)
				}
			}
		}
		a, _ := w.Time(0)
		b, _ := w.Time(1)
		if far := a - b; far > 20*ns || far < -20*ns || (a > 1<<32*ns) != (better == 0) {
			t.Errorf("times are %d and %d ns", a/ns, b/ns)
		}
	}
}

// P25.3: a node without a link tells nobody, and holds its time; its ticks don't stop.
func TestAlone(t *testing.T) {
	s := clocks(plan.Conf{Nodes: []plan.Node{{Ports: 2}, {Ports: 2, Bridge: true}}, Cycle: 1000, Every: 1000, Grain: 1})
	w := newWorld(t, s)
	run(t, w, 1_000_000)
	holdLost(t, w, 0, 0, 0)
	for i := range 2 {
		if x, ok := w.Time(i); x != 1_000_000*ns || !ok {
			t.Errorf("node %d's time is %d, %v", i, x, ok)
		}
		if _, roles := w.Roles(i, 0); text(roles) != text([]int{best.Off, best.Off}) {
			t.Errorf("node %d's roles are %v", i, roles)
		}
	}
	holdDo(t, w, world.Step{K: world.Kill, N: 1}, api.OK)
	run(t, w, 1_000_000)
	if x, ok := w.Time(0); x != 2_000_000*ns || !ok {
		t.Errorf("node 0's time is %d, %v", x, ok)
	}
}
