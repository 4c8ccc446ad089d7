package plan_test

import (
	"math"
	"math/big"
	"reflect"
	"testing"

	"sandglass/api"
	"sandglass/gates"
	"sandglass/plan"
)

const (
	most   = math.MaxInt
	least  = math.MinInt
	top    = 128 // the gate of flows' frames alone
	others = 127 // all others alone
)

// wild are numbers that hardly anything may be.
var wild = []int{least, least + 1, -1 << 40, 1 << 40, most - 1, most}

// end is a port of a node.
func end(node, port int) plan.End { return plan.End{Node: node, Port: port} }

// link is one between two nodes' ports.
func link(a, aPort, b, bPort, low, high int) plan.Link {
	return plan.Link{Ends: [2]plan.End{end(a, aPort), end(b, bPort)}, Low: low, High: high}
}

// square is a network of stations 0 and 1, bridges 2 and 3 between them, and one flow from 0 to 1, by 2 and by 3. Port 2 of station 1 has no link.
func square() plan.Conf {
	return plan.Conf{
		Nodes: []plan.Node{{Ports: 2}, {Ports: 3}, {Ports: 2, Bridge: true}, {Ports: 2, Bridge: true}},
		Links: []plan.Link{
			link(0, 0, 2, 0, 10, 20),
			link(1, 0, 2, 1, 30, 70),
			link(0, 1, 3, 0, 5, 6),
			link(3, 1, 1, 1, 100, 110),
		},
		Flows: []plan.Flow{{From: 0, To: 1, Ways: [2][]int{{0, 1}, {2, 3}}, Start: 2000, Len: 300, Size: 64, Late: 1700}},
		Cycle: 10000, Every: 1000, Ppm: 0, Grain: 2, Proc: 500,
	}
}

// squareOff is that network's: three times 40 for a link and 16 for the grain, and 100: 268.
const squareOff = 3*(40+16) + 100

// copied is a network in memory of its own, with room behind each list.
func copied(c plan.Conf) plan.Conf {
	c.Nodes = roomy(c.Nodes)
	c.Links = roomy(c.Links)
	c.Flows = roomy(c.Flows)
	for i := range c.Flows {
		for side, way := range c.Flows[i].Ways {
			c.Flows[i].Ways[side] = roomy(way)
		}
	}
	return c
}

// roomy is a list in memory of its own, with zeros in the room behind it; of no elements it is as it was.
func roomy[T any](list []T) []T {
	if len(list) == 0 {
		return list
	}
	own := make([]T, len(list), len(list)+5)
	copy(own, list)
	return own
}

// behind is all that a network's lists hold, the room behind them included.
func behind(c plan.Conf) plan.Conf {
	c = copied(plan.Conf{
		Nodes: c.Nodes[:cap(c.Nodes)], Links: c.Links[:cap(c.Links)], Flows: c.Flows[:cap(c.Flows)],
		Cycle: c.Cycle, Every: c.Every, Ppm: c.Ppm, Grain: c.Grain, Proc: c.Proc,
	})
	for i := range c.Flows {
		for side, way := range c.Flows[i].Ways {
			c.Flows[i].Ways[side] = way[:cap(way)]
		}
	}
	return c
}

// unchanged calls something, and holds a network against what it was ahead of that.
func unchanged(t *testing.T, c plan.Conf, call func()) {
	t.Helper()
	kept := behind(c)
	call()
	if now := behind(c); !reflect.DeepEqual(now, kept) {
		t.Errorf("what was handed in is changed: %+v, not %+v", now, kept)
	}
}

// isNone tells whether a plan is the zero one.
func isNone(p plan.Plan) bool { return p.Off == 0 && len(p.Windows) == 0 && len(p.Gates) == 0 }

// holdErr holds Make against its error; beside one there is no plan.
func holdErr(t *testing.T, c plan.Conf, what string, want api.Errno) {
	t.Helper()
	c = copied(c)
	unchanged(t, c, func() {
		p, err := plan.Make(c)
		if err != want || err != api.OK && !isNone(p) {
			t.Errorf("%s: %+v, %d, not %d", what, p, err, want)
		}
	})
}

// fill writes over all memory of a plan.
func fill(p plan.Plan) {
	for i := range p.Windows[:cap(p.Windows)] {
		p.Windows[:cap(p.Windows)][i] = plan.Window{Min: 77, Max: 77}
	}
	for e, l := range p.Gates {
		for i := range l.Slots[:cap(l.Slots)] {
			l.Slots[:cap(l.Slots)][i] = gates.Slot{Open: 77, Len: e.Node*100 + e.Port}
		}
	}
}

// make1 is the plan of a network that must have one; what was answered ahead of it is nobody else's.
func make1(t *testing.T, c plan.Conf) plan.Plan {
	t.Helper()
	c = copied(c)
	var p plan.Plan
	unchanged(t, c, func() {
		spoilt, _ := plan.Make(c)
		fill(spoilt)
		var err api.Errno
		if p, err = plan.Make(c); err != api.OK {
			t.Fatalf("Make(%+v) is %d", c, err)
		}
		fill(spoilt)
	})
	again, err := plan.Make(c)
	if err != api.OK || !reflect.DeepEqual(p, again) {
		t.Fatalf("Make(%+v) is %+v, then %+v", c, p, again)
	}
	fill(again)
	// A list of one port isn't another one's.
	for e, l := range again.Gates {
		for _, s := range l.Slots {
			if s.Len != e.Node*100+e.Port {
				t.Errorf("gates of %v are those of another port, too", e)
			}
		}
	}
	return p
}

// slots are slots by their numbers: what is open, for how long.
func slots(numbers ...int) []gates.Slot {
	var list []gates.Slot
	for i := 0; i < len(numbers); i += 2 {
		list = append(list, gates.Slot{Open: numbers[i], Len: numbers[i+1]})
	}
	return list
}

// holdGates holds a port's gates against what they must be.
func holdGates(t *testing.T, p plan.Plan, e plan.End, cycle int, numbers ...int) {
	t.Helper()
	l, ok := p.Gates[e]
	if !ok || l.Base != 0 || l.Cycle != cycle || !reflect.DeepEqual(l.Slots, slots(numbers...)) || l.Check() != api.OK {
		t.Errorf("gates of %v are %+v, %v, not %v", e, l, ok, numbers)
	}
}

// The chapter's example, and what the constants are.
func TestExample(t *testing.T) {
	c, err := plan.Named(2, 2)
	if err != api.OK || len(c.Nodes) != 4 || len(c.Links) != 4 {
		t.Errorf("Named(2, 2) is %+v, %d", c, err)
	}
	p := make1(t, c)
	for i, w := range p.Windows {
		if w != (plan.Window{Min: 4380, Max: 4400}) {
			t.Errorf("the window of flow %d is %+v", i, w)
		}
	}
	if len(p.Windows) != 8 || plan.MostFlows != 16 || plan.Top != 7 {
		t.Errorf("there are %d windows, %d flows at most; %d", len(p.Windows), plan.MostFlows, plan.Top)
	}
}

// holdOff holds Off against what it must be, and that of the plan, if there is one.
func holdOff(t *testing.T, c plan.Conf, want int) {
	t.Helper()
	c = copied(c)
	unchanged(t, c, func() {
		if got := plan.Off(c); got != want {
			t.Errorf("Off(%+v) is %d, not %d", c, got, want)
		}
	})
	if p, err := plan.Make(c); err != api.OK || p.Off != want {
		t.Errorf("Make(%+v) has Off %d, %d, not %d", c, p.Off, err, want)
	}
}

// bare is a network of nodes that nothing joins, with a cycle of 1000.
func bare(nodes, every, ppm, grain int) plan.Conf {
	return plan.Conf{Nodes: make([]plan.Node, nodes), Cycle: 1000, Every: every, Ppm: ppm, Grain: grain}
}

// P22.1: each of its parts, by hand; both quotients are rounded down, each by itself.
func TestOff(t *testing.T) {
	for _, x := range []struct {
		nodes, every, ppm, grain int
		want                     int
	}{
		{2, 1000, 0, 1, 8 + 100},
		{3, 1000, 0, 1, 2*8 + 100},
		{16, 1000, 0, 1, 15*8 + 100},
		{2, 1000, 0, 1000, 8000 + 100},
		{2, 1 << 30, 0, 1, 108},
		{2, 12499, 1, 1, 108},
		{2, 12500, 1, 1, 109},
		{2, 124999, 1, 1, 8 + 9 + 100},
		{2, 125000, 1, 1, 8 + 1 + 10 + 100},
		{3, 187499, 1, 1, 2*(8+1) + 16 + 100},
		{3, 187500, 1, 1, 2*(8+1) + 16 + 100},
		{3, 250000, 1, 1, 2*(8+2) + 22 + 100},
		{7, 142857, 7, 3, 6*(24+7) + 119 + 100},
		{2, 1000, 1000, 1, 8 + 8 + 80 + 100},
		{16, 1 << 30, 1000, 1000, 15*(8000+8589934) + 206158430 + 100},
	} {
		holdOff(t, bare(x.nodes, x.every, x.ppm, x.grain), x.want)
	}
}

// P22.1: the greatest High less Low, whichever link's it is; it counts once a step.
func TestOffLinks(t *testing.T) {
	c := square()
	c.Flows = nil
	holdOff(t, c, squareOff)
	for i := range c.Links {
		for _, far := range []int{0, 1, 41, 1000, 1 << 20} {
			c := copied(c)
			for j := range c.Links {
				c.Links[j].Low, c.Links[j].High = 100*j, 100*j
			}
			c.Links[i].Low, c.Links[i].High = 0, far
			holdOff(t, c, 3*(far+16)+100)
			// What a link takes doesn't count, but what it may take more than at least.
			c.Links[i].Low = far / 2
			holdOff(t, c, 3*(far-far/2+16)+100)
		}
	}
	// Nor do flows, Cycle or Proc, nor what ports there are.
	c = square()
	holdOff(t, c, squareOff)
	c.Proc, c.Cycle = 0, 9999
	c.Nodes[0].Ports = 8
	holdOff(t, c, squareOff)
}

// P22.1: of many networks, in numbers of any length.
func TestOffMany(t *testing.T) {
	c := chance(1)
	for range 5000 {
		n := bare(c.below(15)+2, 1000+c.below(1<<c.below(31)), c.below(1001), c.below(1000)+1)
		n.Every = min(n.Every, 1<<30)
		for node := 0; node+1 < len(n.Nodes); node += 2 {
			n.Nodes[node].Ports, n.Nodes[node+1].Ports = 1, 1
			low := c.below(1 << 20)
			n.Links = append(n.Links, link(node, 0, node+1, 0, low, low+c.below(1<<20-low+1)))
		}
		holdOff(t, n, plainOff(n))
	}
}

// plainOff is Off by the chapter's words, in numbers of any length.
func plainOff(c plan.Conf) int {
	num := func(x int) *big.Int { return big.NewInt(int64(x)) }
	product := func(list ...int) *big.Int {
		x := num(1)
		for _, y := range list {
			x.Mul(x, num(y))
		}
		return x
	}
	far := 0
	for _, l := range c.Links {
		if l.High-l.Low > far {
			far = l.High - l.Low
		}
	}
	nodes := len(c.Nodes)
	step := product(8, c.Ppm, c.Every)
	step.Div(step, num(1_000_000)).Add(step, num(far)).Add(step, num(8*c.Grain))
	all := product(8, c.Ppm, nodes+8, c.Every)
	all.Div(all, num(1_000_000)).Add(all, num(100))
	all.Add(all, step.Mul(step, num(nodes-1)))
	return int(all.Int64())
}

// Off of networks that aren't right ends, and doesn't panic.
func TestOffWrong(t *testing.T) {
	plan.Off(plan.Conf{})
	for _, x := range wild {
		for _, y := range wild {
			c := square()
			c.Every, c.Ppm, c.Grain = x, y, x
			c.Links[0].Low, c.Links[0].High = x, y
			unchanged(t, c, func() { plan.Off(c) })
		}
	}
}
