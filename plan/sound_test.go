package plan_test

import (
	"slices"
	"testing"

	"sandglass/api"
	"sandglass/plan"
)

// trip is a frame of a flow, on its way by true time: clocks are how much ahead of that each node's is.
type trip struct {
	conf   plan.Conf
	plan   plan.Plan
	flow   int
	clocks []int
}

// goes sends a frame at a time of the sender's clock on a way, over links that take as long as told, and holds each port's gates against it: the gate is open for all its time.
func (x trip) goes(t *testing.T, way []int, start int, delay func(plan.Link) int) {
	t.Helper()
	f := x.conf.Flows[x.flow]
	long := 8 * f.Size
	begin := start - x.clocks[f.From]
	now := begin
	for i, node := range plainNodes(x.conf, f.From, way) {
		if i == len(way) {
			break
		}
		if i > 0 {
			now += x.conf.Proc
		}
		l := x.conf.Links[way[i]]
		out := l.Ends[0]
		if out.Node != node {
			out = l.Ends[1]
		}
		list := x.plan.Gates[out]
		here := now + x.clocks[node]
		if list.State(here) != top || list.Left(here, plan.Top) < long {
			t.Fatalf("flow %d: at %v, %d by its clock, gates are %+v", x.flow, out, here, list)
		}
		now += long + delay(l)
	}
	w := x.plan.Windows[x.flow]
	if took := now - begin; took < w.Min || took > w.Max {
		t.Fatalf("flow %d: it takes %d, not %+v", x.flow, took, w)
	}
}

// P22.3: whatever links take, and however far clocks are from each other by Off: each frame finds its gates open, and takes as long as its window says; so it does if it sets out by Off too late.
func TestSound(t *testing.T) {
	c := chance(2)
	frames := 0
	for range 6000 {
		n := c.network()
		p, err := plan.Make(n)
		if err != api.OK || len(n.Flows) == 0 {
			continue
		}
		for range 4 {
			x := trip{n, p, c.below(len(n.Flows)), make([]int, len(n.Nodes))}
			for i := range x.clocks {
				x.clocks[i] = c.one(0, p.Off, c.below(p.Off+1))
			}
			f := n.Flows[x.flow]
			start := f.Start + c.one(0, f.Len, f.Len+p.Off, c.below(f.Len+1))
			for _, way := range f.Ways {
				delay := func(l plan.Link) int { return l.Low + c.below(l.High-l.Low+1) }
				x.goes(t, way, start, delay)
				x.goes(t, way, start, func(l plan.Link) int { return l.Low })
				x.goes(t, way, start, func(l plan.Link) int { return l.High })
				frames += 3
			}
		}
	}
	if frames < 10000 {
		t.Errorf("there are only %d frames", frames)
	}
}

// P22.3: a window is no wider than it must be: its ends are those of links that take their least, and their most.
func TestTight(t *testing.T) {
	eachNamed(t, func(kind, n int, c plan.Conf) {
		p := make1(t, c)
		for i, f := range c.Flows {
			var took []int
			for _, way := range f.Ways {
				low, high := (len(way)-1)*c.Proc, (len(way)-1)*c.Proc
				for _, link := range way {
					low += 8*f.Size + c.Links[link].Low
					high += 8*f.Size + c.Links[link].High
				}
				took = append(took, low, high)
			}
			if w := p.Windows[i]; w.Min != slices.Min(took) || w.Max != slices.Max(took) {
				t.Errorf("Named(%d, %d): flow %d takes %v, its window is %+v", kind, n, i, took, w)
			}
		}
	})
}

// P22.3: in all spans of a port together gate 7 is open for as long as the flows there need, in all other time the others are.
func TestGatesInAll(t *testing.T) {
	eachNamed(t, func(kind, n int, c plan.Conf) {
		p := make1(t, c)
		need := map[plan.End]int{}
		for flow := range c.Flows {
			for _, x := range plainAts(c, flow) {
				need[x.port] += x.to - x.from
			}
		}
		for e, l := range p.Gates {
			sum := map[int]int{}
			for _, s := range l.Slots {
				sum[s.Open] += s.Len
			}
			if sum[top] != need[e] || sum[top]+sum[others] != c.Cycle || l.Base != 0 || l.Cycle != c.Cycle {
				t.Errorf("Named(%d, %d): gates of %v are %+v", kind, n, e, l)
			}
		}
	})
}
