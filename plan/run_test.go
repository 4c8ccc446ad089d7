package plan_test

import (
	"reflect"
	"slices"
	"testing"

	"sandglass/api"
	"sandglass/gates"
	"sandglass/plan"
)

// chance is a row of numbers that looks like one at random, always the same.
type chance uint64

func (c *chance) below(n int) int {
	*c = *c*6364136223846793005 + 1442695040888963407
	return int(*c>>20) % n
}

// one is one of some numbers.
func (c *chance) one(xs ...int) int { return xs[c.below(len(xs))] }

// at is a port at which a flow's frames go out, and when.
type at struct {
	flow     int
	port     plan.End
	from, to int
}

// plainNet is a network's error by the chapter's words, but for its flows.
func plainNet(c plan.Conf) api.Errno {
	if len(c.Nodes) > 16 || len(c.Links) > 64 || len(c.Flows) > 16 {
		return api.ErrMany
	}
	isRight := len(c.Nodes) >= 2 &&
		1 <= c.Cycle && c.Cycle <= 1<<30 &&
		1000 <= c.Every && c.Every <= 1<<30 &&
		0 <= c.Ppm && c.Ppm <= 1000 &&
		1 <= c.Grain && c.Grain <= 1000 &&
		0 <= c.Proc && c.Proc <= 1<<20
	for _, n := range c.Nodes {
		isRight = isRight && 0 <= n.Ports && n.Ports <= 8
	}
	if !isRight {
		return api.ErrArg
	}
	var ahead []plan.End
	for _, l := range c.Links {
		for _, e := range l.Ends {
			if e.Node < 0 || e.Node >= len(c.Nodes) || e.Port < 0 || e.Port >= c.Nodes[e.Node].Ports || slices.Contains(ahead, e) {
				return api.ErrLink
			}
			ahead = append(ahead, e)
		}
		if l.Ends[0].Node == l.Ends[1].Node || l.Low < 0 || l.High < l.Low || l.High > 1<<20 {
			return api.ErrLink
		}
	}
	return api.OK
}

// plainNodes are the nodes to which a way comes, link by link, the first one included; none, if a link has no end at the node reached.
func plainNodes(c plan.Conf, from int, way []int) []int {
	if len(way) == 0 {
		return []int{from}
	}
	if way[0] < 0 || way[0] >= len(c.Links) {
		return nil
	}
	to := -1
	switch from {
	case c.Links[way[0]].Ends[0].Node:
		to = c.Links[way[0]].Ends[1].Node
	case c.Links[way[0]].Ends[1].Node:
		to = c.Links[way[0]].Ends[0].Node
	default:
		return nil
	}
	rest := plainNodes(c, to, way[1:])
	if rest == nil {
		return nil
	}
	return append([]int{from}, rest...)
}

// plainIsWay tells whether nodes are those of a way of a flow.
func plainIsWay(c plan.Conf, f plan.Flow, nodes []int) bool {
	if len(nodes) < 2 || len(nodes) > 17 || nodes[len(nodes)-1] != f.To {
		return false
	}
	times := map[int]int{}
	for i, node := range nodes {
		times[node]++
		isBetween := i > 0 && i < len(nodes)-1
		if times[node] > 1 || isBetween && !c.Nodes[node].Bridge {
			return false
		}
	}
	return true
}

// plainPaths tells whether a flow's ways are two that are apart from each other.
func plainPaths(c plan.Conf, f plan.Flow) bool {
	var nodes [2][]int
	for side, way := range f.Ways {
		nodes[side] = plainNodes(c, f.From, way)
		if !plainIsWay(c, f, nodes[side]) {
			return false
		}
	}
	for _, link := range f.Ways[0] {
		if slices.Contains(f.Ways[1], link) {
			return false
		}
	}
	for _, node := range nodes[0] {
		if node != f.From && node != f.To && slices.Contains(nodes[1], node) {
			return false
		}
	}
	return true
}

// plainTakes is what a way takes up to where its frames go out for the i-th time, from 0 on, at least or at most; of as many as it has links: all of it.
func plainTakes(c plan.Conf, f plan.Flow, way []int, i int, most bool) int {
	sum := 0
	for _, link := range way[:i] {
		sum += 8*f.Size + c.Links[link].Low
		if most {
			sum += c.Links[link].High - c.Links[link].Low
		}
	}
	return sum + c.Proc*min(i, len(way)-1)
}

// plainAts are all spans of a flow.
func plainAts(c plan.Conf, flow int) []at {
	f := c.Flows[flow]
	off := plainOff(c)
	var list []at
	for _, way := range f.Ways {
		nodes := plainNodes(c, f.From, way)
		for i, link := range way {
			x := at{
				flow: flow,
				from: f.Start + plainTakes(c, f, way, i, false) - 2*off,
				to:   f.Start + f.Len + plainTakes(c, f, way, i, true) + 8*f.Size + 2*off,
			}
			for _, e := range c.Links[link].Ends {
				if e.Node == nodes[i] {
					x.port = e
				}
			}
			list = append(list, x)
		}
	}
	return list
}

// plainFlow is a flow's error, its window and its spans.
func plainFlow(c plan.Conf, flow int) (api.Errno, plan.Window, []at) {
	f := c.Flows[flow]
	nodes := len(c.Nodes)
	if f.From < 0 || f.From >= nodes || f.To < 0 || f.To >= nodes || f.From == f.To ||
		f.Start < 0 || f.Start > c.Cycle || f.Len < 0 || f.Len > c.Cycle || f.Size < 64 || f.Size > 1600 || f.Late < 0 {
		return api.ErrArg, plan.Window{}, nil
	}
	if !plainPaths(c, f) {
		return api.ErrPath, plan.Window{}, nil
	}
	ats := plainAts(c, flow)
	for _, x := range ats {
		if x.from < 0 || x.to > c.Cycle {
			return api.ErrSlot, plan.Window{}, nil
		}
	}
	var all []int
	for _, way := range f.Ways {
		all = append(all, plainTakes(c, f, way, len(way), false), plainTakes(c, f, way, len(way), true))
	}
	w := plan.Window{Min: slices.Min(all), Max: slices.Max(all)}
	if w.Max > f.Late {
		return api.ErrLate, plan.Window{}, nil
	}
	return api.OK, w, ats
}

// plainGates are what a port's gates do: each time between two at which something begins or ends is a slot.
func plainGates(c plan.Conf, port plan.End, all []at) gates.List {
	cuts := []int{0, c.Cycle}
	for _, x := range all {
		if x.port == port {
			cuts = append(cuts, x.from, x.to)
		}
	}
	slices.Sort(cuts)
	cuts = slices.Compact(cuts)
	l := gates.List{Cycle: c.Cycle}
	for i, from := range cuts[:len(cuts)-1] {
		open := others
		for _, x := range all {
			if x.port == port && x.from <= from && from < x.to {
				open = top
			}
		}
		l.Slots = append(l.Slots, gates.Slot{Open: open, Len: cuts[i+1] - from})
	}
	return l
}

// plainMake is Make by the chapter's words.
func plainMake(c plan.Conf) (plan.Plan, api.Errno) {
	if err := plainNet(c); err != api.OK {
		return plan.Plan{}, err
	}
	p := plan.Plan{Off: plainOff(c), Gates: map[plan.End]gates.List{}}
	var all []at
	for flow := range c.Flows {
		err, w, ats := plainFlow(c, flow)
		if err != api.OK {
			return plan.Plan{}, err
		}
		p.Windows = append(p.Windows, w)
		all = append(all, ats...)
	}
	for i, x := range all {
		for _, y := range all[:i] {
			if x.port == y.port && x.from < y.to && y.from < x.to {
				return plan.Plan{}, api.ErrSlot
			}
		}
	}
	for node, n := range c.Nodes {
		for port := range n.Ports {
			p.Gates[end(node, port)] = plainGates(c, end(node, port), all)
		}
	}
	return p, api.OK
}

// shuffled is a list in another order, and where each of it went.
func shuffled[T any](c *chance, list []T) ([]T, []int) {
	to := rising(len(list))
	for i := range to {
		j := i + c.below(len(to)-i)
		to[i], to[j] = to[j], to[i]
	}
	out := make([]T, len(list))
	for i, x := range list {
		out[to[i]] = x
	}
	return out, to
}

// renamed is the same network, its nodes, links and flows in another order, and some links turned round.
func (c *chance) renamed(n plan.Conf) plan.Conf {
	n = copied(n)
	var node, link []int
	n.Nodes, node = shuffled(c, n.Nodes)
	n.Links, link = shuffled(c, n.Links)
	n.Flows, _ = shuffled(c, n.Flows)
	for i := range n.Links {
		ends := &n.Links[i].Ends
		for side := range ends {
			ends[side].Node = node[ends[side].Node]
		}
		if c.below(2) == 0 {
			ends[0], ends[1] = ends[1], ends[0]
		}
	}
	for i := range n.Flows {
		f := &n.Flows[i]
		f.From, f.To = node[f.From], node[f.To]
		for _, way := range f.Ways {
			for j := range way {
				way[j] = link[way[j]]
			}
		}
	}
	return n
}

// network is one of a kind that has a name, but with numbers of its own: mostly right ones.
func (c *chance) network() plan.Conf {
	kind := c.below(3)
	n, _ := plan.Named(kind, c.one([]int{1, 4, 2}[kind], []int{1, 4, 2}[kind]+c.below(5)))
	n = c.renamed(n)
	n.Every, n.Ppm, n.Grain, n.Proc = 1000+c.below(100000), c.below(101), 1+c.below(20), c.below(2000)
	for i := range n.Links {
		low := c.below(300)
		n.Links[i].Low, n.Links[i].High = low, low+c.below(40)
	}
	n.Flows = n.Flows[:c.below(len(n.Flows)+1)]
	n.Cycle = 1 + c.below(1<<(12+c.below(8)))
	if len(n.Flows) > 0 && c.below(20) > 0 {
		n.Cycle += len(n.Flows) * 14000
	}
	for i := range n.Flows {
		f := &n.Flows[i]
		f.Start, f.Len = 9000+14000*i+c.below(200), c.below(200)
		if c.below(20) == 0 {
			f.Start = c.below(n.Cycle + 1)
		}
		f.Size, f.Late = 64+c.below(c.one(1, 20, 400)), c.one(1<<20, 1<<20, 1<<20, 1<<20, 1<<20, c.below(20000))
	}
	return n
}

// spoilNumber sets a number in a network to one that mostly is wrong there.
func (c *chance) spoilNumber(n *plan.Conf) {
	l := &n.Links[c.below(len(n.Links))]
	numbers := []*int{
		&n.Cycle, &n.Every, &n.Ppm, &n.Grain, &n.Proc, &n.Nodes[c.below(len(n.Nodes))].Ports,
		&l.Ends[0].Node, &l.Ends[0].Port, &l.Ends[1].Node, &l.Ends[1].Port, &l.Low, &l.High,
	}
	if len(n.Flows) > 0 {
		f := &n.Flows[c.below(len(n.Flows))]
		numbers = append(numbers, &f.From, &f.To, &f.Start, &f.Len, &f.Size, &f.Late)
	}
	*numbers[c.below(len(numbers))] = c.one(-1, 0, 1, 2, 3, 4, 5, 8, 9, 63, 64, 999, 1000, 1001, 1600, 1601, 1<<20+1, 1<<30+1, most, least)
}

// spoilWay changes a way of a flow, so that it mostly is none.
func (c *chance) spoilWay(n *plan.Conf) {
	f := &n.Flows[c.below(len(n.Flows))]
	way := &f.Ways[c.below(2)]
	switch c.below(8) {
	case 0:
		*way = (*way)[:c.below(len(*way)+1)]
	case 4, 5:
		*way = slices.Insert(*way, c.below(len(*way)+1), c.below(len(n.Links)))
	case 1:
		*way = append(*way, c.below(len(n.Links)+1))
	case 2:
		slices.Reverse(*way)
	case 3:
		*way = slices.Clone(f.Ways[c.below(2)])
	default:
		(*way)[c.below(len(*way))] = c.one(c.below(len(n.Links)), c.below(len(n.Links)), -1, len(n.Links), most, least)
	}
}

// spoil changes something in a network, or nothing.
func (c *chance) spoil(n *plan.Conf) {
	switch c.below(8) {
	case 0, 1:
		c.spoilNumber(n)
	case 2:
		node := &n.Nodes[c.below(len(n.Nodes))]
		node.Bridge = !node.Bridge
	case 3:
		if len(n.Flows) > 0 {
			c.spoilWay(n)
		}
	}
	if c.below(60) == 0 {
		n.Nodes = append(n.Nodes, make([]plan.Node, 16)...)
	}
}

// P22.1 to P22.3: many networks, held against the chapter's words.
func TestLongRuns(t *testing.T) {
	c := chance(1)
	errs := map[api.Errno]int{}
	flows, spans := 0, 0
	for range 20000 {
		n := c.network()
		c.spoil(&n)
		n = copied(n)
		kept := behind(n)
		want, err := plainMake(n)
		got, e := plan.Make(n)
		if e != err || !reflect.DeepEqual(got.Gates, want.Gates) && len(want.Gates) > 0 || !slices.Equal(got.Windows, want.Windows) || got.Off != want.Off {
			t.Fatalf("Make(%+v) is %+v, %d, not %+v, %d", n, got, e, want, err)
		}
		if !reflect.DeepEqual(behind(n), kept) {
			t.Fatalf("Make has changed %+v", kept)
		}
		errs[e]++
		flows += len(got.Windows)
		for _, l := range got.Gates {
			if l.Check() != api.OK {
				t.Fatalf("gates are %+v", l)
			}
			spans += len(l.Slots) / 2
		}
		if e != api.OK && !isNone(got) {
			t.Fatalf("beside %d there is %+v", e, got)
		}
	}
	for _, err := range []api.Errno{api.OK, api.ErrMany, api.ErrArg, api.ErrLink, api.ErrPath, api.ErrSlot, api.ErrLate} {
		if errs[err] < 250 {
			t.Errorf("of %d there are only %d", err, errs[err])
		}
	}
	if flows < 20000 || spans < 100000 {
		t.Errorf("there are only %d flows and %d spans", flows, spans)
	}
}
