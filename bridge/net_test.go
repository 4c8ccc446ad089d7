package bridge_test

import (
	"testing"

	"sandglass/agenda"
	"sandglass/api"
	"sandglass/bridge"
	"sandglass/ether"
	"sandglass/osc"
	"sandglass/plan"
	"sandglass/ptp"
	"sandglass/rate"
	"sandglass/stamp"
)

// arrival is a flow's frame that came to its station.
type arrival struct{ flow, seq, port int }

// net is nodes whose clocks run unlike, and links; what waits at a port goes out in the order in which it came.
type net struct {
	t      *testing.T
	c      plan.Conf
	nodes  []*bridge.Bridge // nil: it is dead
	clocks []*osc.Clock
	priors [2][]ptp.Prior
	isGone []bool           // of links
	free   map[plan.End]int // when what goes out there is out
	todo   *agenda.Agenda[func()]
	came   map[arrival]int
	strays int // what a station took that isn't a flow's for it
}

// mac is the address to which a flow's frames go.
func mac(flow int) api.Mac { return api.Mac{1, 0, 0, 0, 1, byte(flow)} }

// newNet is a network that has a name, whose i-th node's clock is the better in a domain the less firsts says.
func newNet(t *testing.T, kind, size int, firsts [2]func(i int) int) *net {
	t.Helper()
	c, err := plan.Named(kind, size)
	if err != api.OK {
		t.Fatalf("Named(%d, %d) is %d", kind, size, err)
	}
	n := &net{t: t, c: c, isGone: make([]bool, len(c.Links)), free: map[plan.End]int{}, todo: agenda.New[func()](), came: map[arrival]int{}}
	for i, x := range c.Nodes {
		node := bridge.Conf{Id: i + 1, Ports: x.Ports, Relay: x.Bridge, Every: c.Every}
		for d := range 2 {
			node.Prior[d] = prior(firsts[d](i), i+1)
			n.priors[d] = append(n.priors[d], node.Prior[d])
		}
		if x.Bridge {
			node.Flows = n.flows(i)
		}
		n.nodes = append(n.nodes, newNode(t, node))
		r, _ := rate.Of([]float64{100, -100, 0, 37, -80}[i%5])
		clock, err := osc.New(stamp.Stamp(i*i)*77777*ns, c.Grain, []osc.Turn{{At: 0, Rate: r}})
		if err != api.OK {
			t.Fatalf("osc.New is %d", err)
		}
		n.clocks = append(n.clocks, clock)
		n.at(1000*(i+1), func() { n.tick(i) })
	}
	for _, l := range c.Links {
		for _, e := range l.Ends {
			n.nodes[e.Node].Link(e.Port, true)
		}
	}
	return n
}

// flows is the flows that a bridge has: one for each way on which it lies.
func (n *net) flows(node int) []bridge.Flow {
	var list []bridge.Flow
	for i, f := range n.c.Flows {
		for _, way := range f.Ways {
			in, at := -1, f.From
			for _, l := range way {
				ends := n.c.Links[l].Ends
				if ends[0].Node != at {
					ends[0], ends[1] = ends[1], ends[0]
				}
				if at == node {
					list = append(list, bridge.Flow{Vid: 2 + i, Mac: mac(i), In: in, Outs: 1 << ends[0].Port, Max: f.Size})
				}
				in, at = ends[1].Port, ends[1].Node
			}
		}
	}
	return list
}

// at lets something happen at a true time.
func (n *net) at(when int, what func()) {
	n.t.Helper()
	if _, err := n.todo.Put(when, what); err != api.OK {
		n.t.Fatalf("Put at %d is %d", when, err)
	}
}

// told is what a node's clock tells.
func (n *net) told(i, when int) stamp.Stamp {
	s, _ := n.clocks[i].At(when)
	return s
}

// tick lets a node tick, and again, once its clock tells so much more.
func (n *net) tick(i int) {
	if n.nodes[i] == nil {
		return
	}
	here := n.told(i, n.todo.Now())
	n.send(i, n.nodes[i].Tick(here))
	next, _ := n.clocks[i].When(here + stamp.Stamp(n.c.Every)*ns)
	n.at(next, func() { n.tick(i) })
}

// other is a port's link, whether it is there, and its other end.
func (n *net) other(e plan.End) (int, plan.End, bool) {
	for i, l := range n.c.Links {
		switch e {
		case l.Ends[0]:
			return i, l.Ends[1], !n.isGone[i]
		case l.Ends[1]:
			return i, l.Ends[0], !n.isGone[i]
		}
	}
	return 0, plan.End{}, false
}

// send lets frames go out behind those that wait at their ports.
func (n *net) send(i int, outs []bridge.Out) {
	for _, x := range outs {
		e := plan.End{Node: i, Port: x.Port}
		from := max(n.todo.Now(), n.free[e])
		n.free[e] = from + 8*len(x.Bytes)
		n.at(from, func() { n.start(e, x) })
	}
}

// start lets a frame begin to go out: its Sent is told, and it comes in at the other end.
func (n *net) start(e plan.End, x bridge.Out) {
	if n.nodes[e.Node] == nil {
		return
	}
	now := n.todo.Now()
	if x.Mark != 0 {
		here, _ := n.clocks[e.Node].Mark(now)
		n.send(e.Node, n.nodes[e.Node].Sent(x.Mark, here))
	}
	l, to, ok := n.other(e)
	if !ok {
		return
	}
	low, high := n.c.Links[l].Low, n.c.Links[l].High
	first := now + low + l%(high-low+1)
	n.at(first+8*len(x.Bytes), func() {
		if !n.isGone[l] && n.nodes[to.Node] != nil {
			n.in(to, x.Bytes, first)
		}
	})
}

// in lets a frame come in whose first bit came at a time.
func (n *net) in(e plan.End, bytes []byte, first int) {
	here, _ := n.clocks[e.Node].Mark(first)
	outs, own := n.nodes[e.Node].In(e.Port, bytes, here)
	for _, f := range own {
		flow := f.Vid - 2
		if flow < 0 || flow >= len(n.c.Flows) || f.Dst != mac(flow) || n.c.Flows[flow].To != e.Node || len(f.Data) != n.c.Flows[flow].Size-30 {
			n.strays++
			continue
		}
		n.came[arrival{flow, f.Seq, e.Port}]++
	}
	wait := n.c.Proc
	if len(outs) > 0 && outs[0].Class == bridge.Time {
		wait = 0
	}
	n.at(n.todo.Now()+wait, func() {
		if n.nodes[e.Node] != nil {
			n.send(e.Node, outs)
		}
	})
}

// run lets all happen until a time.
func (n *net) run(until int) {
	for {
		_, _, what, ok := n.todo.Next(until)
		if !ok {
			break
		}
		what()
	}
	n.todo.Wait(until)
}

// cut lets a link go.
func (n *net) cut(l int) {
	n.isGone[l] = true
	for _, e := range n.c.Links[l].Ends {
		n.nodes[e.Node].Link(e.Port, false)
	}
}

// kill lets a node stop, and its links go.
func (n *net) kill(i int) {
	for l, x := range n.c.Links {
		if x.Ends[0].Node == i || x.Ends[1].Node == i {
			n.cut(l)
		}
	}
	n.nodes[i] = nil
}

// holdTimes lets some time go by, in which all nodes' times are no further from each other than is reckoned ahead.
func (n *net) holdTimes(far int) {
	n.t.Helper()
	off := stamp.Stamp(plan.Off(n.c)) * ns
	for end := n.todo.Now() + far; n.todo.Now() < end; {
		n.run(n.todo.Now() + n.c.Every/3)
		var first, last stamp.Stamp
		isFirst := true
		for i, b := range n.nodes {
			if b == nil {
				continue
			}
			time, ok := b.At(n.told(i, n.todo.Now()))
			if !ok {
				n.t.Fatalf("at %d node %d has no time", n.todo.Now(), i)
			}
			if isFirst {
				first, last, isFirst = time, time, false
			}
			first, last = min(first, time), max(last, time)
		}
		if last-first > off {
			n.t.Fatalf("at %d times are %d ns from each other, which is more than %d", n.todo.Now(), (last-first)/ns, off/ns)
		}
	}
}

// holdTree holds the roles in a domain against a tree from the best clock that lives.
func (n *net) holdTree(d int) {
	n.t.Helper()
	best := -1
	for i, b := range n.nodes {
		if b != nil && (best < 0 || n.priors[d][i].One < n.priors[d][best].One) {
			best = i
		}
	}
	roles := map[plan.End]int{}
	for i, b := range n.nodes {
		if b == nil {
			continue
		}
		p, does := b.Roles(d, n.told(i, n.todo.Now()))
		slaves := 0
		for port, role := range does {
			roles[plan.End{Node: i, Port: port}] = role
			if role == slave {
				slaves++
			}
		}
		if p != n.priors[d][best] || slaves == 1 == (i == best) || slaves > 1 {
			n.t.Errorf("domain %d: node %d takes %+v as the best, and its ports are %d", d, i, p, does)
		}
	}
	for l, x := range n.c.Links {
		a, b := roles[x.Ends[0]], roles[x.Ends[1]]
		isRight := a == master && b > master || a > master && b == master
		if n.isGone[l] {
			isRight = a == off && b == off
		}
		if !isRight {
			n.t.Errorf("domain %d: the ends of link %d are %d, %d", d, l, a, b)
		}
	}
}

// talk lets each flow send frames on both ways, far enough from each other; some go to nobody.
func (n *net) talk(frames int) {
	n.t.Helper()
	for seq := range frames {
		for i, f := range n.c.Flows {
			x, err := bridge.Numbered(bridge.Flow{Vid: 2 + i, Mac: mac(i)}, ether.Of(f.From+1), seq, make([]byte, f.Size-30))
			if err != api.OK {
				n.t.Fatalf("Numbered is %d", err)
			}
			for _, way := range f.Ways {
				for _, e := range n.c.Links[way[0]].Ends {
					if e.Node == f.From {
						n.send(f.From, []bridge.Out{{Port: e.Port, Class: bridge.Top, Bytes: x}})
					}
				}
			}
		}
		n.holdTimes(n.c.Every)
	}
	for i, f := range n.c.Flows {
		for seq := range frames {
			for _, way := range f.Ways {
				isWhole := true
				for _, l := range way {
					isWhole = isWhole && !n.isGone[l]
				}
				for _, e := range n.c.Links[way[len(way)-1]].Ends {
					if got := n.came[arrival{i, seq, e.Port}]; e.Node == f.To && got != is(isWhole) {
						n.t.Errorf("flow %d's frame %d came %d times at port %d", i, seq, got, e.Port)
					}
				}
			}
		}
	}
	clear(n.came)
	if n.strays != 0 {
		n.t.Errorf("%d frames came to stations that aren't theirs", n.strays)
	}
	n.strays = 0
}

func is(x bool) int {
	if x {
		return 1
	}
	return 0
}

// settle lets so much time go by that all is held together.
func (n *net) settle() {
	n.t.Helper()
	n.run(n.todo.Now() + (6*len(n.nodes)+40)*n.c.Every)
}

// Networks and how good clocks are in them: the best of domain 0 first, last, in the middle; that of domain 1 another one.
var goods = [...][2]int{{0, 4}, {4, 1}, {2, 3}, {3, 3}}

// named is a network that has a name, settled.
func named(t *testing.T, kind, size, good int) *net {
	t.Helper()
	var firsts [2]func(int) int
	for d, best := range goods[good] {
		firsts[d] = func(i int) int { return (i + 12 - best) % 12 }
	}
	n := newNet(t, kind, size, firsts)
	n.settle()
	n.holdTree(0)
	n.holdTree(1)
	return n
}

// P23.2 to P23.4: nodes hold their clocks together, and let flows' frames come on both ways.
func TestNetworks(t *testing.T) {
	for _, c := range [][2]int{{0, 1}, {0, 3}, {1, 4}, {1, 6}, {2, 3}, {2, 5}} {
		for good := range goods {
			n := named(t, c[0], c[1], good)
			n.talk(5)
			n.holdTree(0)
			n.holdTree(1)
			if t.Failed() {
				t.Fatalf("network %v, clocks %d", c, good)
			}
		}
	}
}

// P23.2 to P23.4: while a link goes, be it any, all times stay near each other, and the other way stays whole.
func TestNetworksCut(t *testing.T) {
	for _, c := range [][2]int{{0, 2}, {1, 5}, {2, 3}} {
		for l := range named(t, c[0], c[1], 0).c.Links {
			n := named(t, c[0], c[1], l%len(goods))
			n.cut(l)
			n.talk(9)
			n.holdTimes((6*len(n.nodes) + 40) * n.c.Every)
			n.holdTree(0)
			n.holdTree(1)
			n.talk(2)
			if t.Failed() {
				t.Fatalf("network %v, link %d", c, l)
			}
		}
	}
}

// P23.2 to P23.4: while a node stops, be it any, the others' times stay near each other.
func TestNetworksKill(t *testing.T) {
	for _, c := range [][2]int{{0, 2}, {1, 5}, {2, 3}} {
		for i := range named(t, c[0], c[1], 0).nodes {
			for good := range goods {
				n := named(t, c[0], c[1], good)
				n.kill(i)
				n.holdTimes((6*len(n.nodes) + 40) * n.c.Every)
				n.holdTree(0)
				n.holdTree(1)
				if t.Failed() {
					t.Fatalf("network %v, node %d, clocks %d", c, i, good)
				}
			}
		}
	}
}
