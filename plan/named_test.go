package plan_test

import (
	"reflect"
	"slices"
	"testing"

	"sandglass/api"
	"sandglass/plan"
)

// sizes are the least and the greatest n of each kind.
var sizes = [][2]int{{1, 6}, {4, 8}, {2, 8}}

// eachNamed calls something with each network that has a name.
func eachNamed(t *testing.T, call func(kind, n int, c plan.Conf)) {
	t.Helper()
	for kind, size := range sizes {
		for n := size[0]; n <= size[1]; n++ {
			c, err := plan.Named(kind, n)
			if err != api.OK {
				t.Fatalf("Named(%d, %d) is %d", kind, n, err)
			}
			call(kind, n, c)
		}
	}
}

// neighbours are the nodes to which each node has links, rising.
func neighbours(c plan.Conf) [][]int {
	list := make([][]int, len(c.Nodes))
	for _, l := range c.Links {
		a, b := l.Ends[0].Node, l.Ends[1].Node
		list[a], list[b] = append(list[a], b), append(list[b], a)
	}
	for node := range list {
		slices.Sort(list[node])
	}
	return list
}

// stations are the nodes that are no bridges.
func stations(c plan.Conf) []int {
	var list []int
	for node, n := range c.Nodes {
		if !n.Bridge {
			list = append(list, node)
		}
	}
	return list
}

// P22.4: other kinds, and n one below the least and one above the greatest.
func TestNamedWrong(t *testing.T) {
	for _, kind := range append([]int{-1, -2, 3, 4, 5}, wild...) {
		for _, n := range append([]int{-1, 0, 1, 2, 3, 4, 5, 6, 7, 8, 9}, wild...) {
			holdNoName(t, kind, n)
		}
	}
	for kind, size := range sizes {
		for _, n := range append([]int{size[0] - 1, size[0] - 2, -1, size[1] + 1, size[1] + 2, 16, 100}, wild...) {
			holdNoName(t, kind, n)
		}
	}
}

func holdNoName(t *testing.T, kind, n int) {
	t.Helper()
	if c, err := plan.Named(kind, n); err != api.ErrArg || !reflect.DeepEqual(c, plan.Conf{}) {
		t.Errorf("Named(%d, %d) is %+v, %d", kind, n, c, err)
	}
}

// P22.4: each has eight flows between stations, and a plan, in which each bridge on a flow's way has a span of it.
func TestNamed(t *testing.T) {
	eachNamed(t, func(kind, n int, c plan.Conf) {
		p := make1(t, c)
		if len(c.Flows) != 8 || len(p.Windows) != 8 || p.Off != plan.Off(c) {
			t.Errorf("Named(%d, %d) has %d flows, %d windows", kind, n, len(c.Flows), len(p.Windows))
		}
		hops := 0
		for _, f := range c.Flows {
			if c.Nodes[f.From].Bridge || c.Nodes[f.To].Bridge {
				t.Errorf("Named(%d, %d) has a flow from %d to %d", kind, n, f.From, f.To)
			}
			hops += len(f.Ways[0]) + len(f.Ways[1])
		}
		for _, l := range p.Gates {
			for _, s := range l.Slots {
				hops -= s.Open >> 7
			}
		}
		if hops != 0 {
			t.Errorf("Named(%d, %d) has %d hops more than spans", kind, n, hops)
		}
		// All ports have links.
		ports := 0
		for _, x := range c.Nodes {
			ports += x.Ports
		}
		if ports != 2*len(c.Links) || len(p.Gates) != ports {
			t.Errorf("Named(%d, %d) has %d ports, %d links, gates at %d", kind, n, ports, len(c.Links), len(p.Gates))
		}
	})
}

// P22.4: kind 0: stations 0 and 1, and two rows of n bridges, each of them from one to the other.
func TestNamedRows(t *testing.T) {
	for n := 1; n <= 6; n++ {
		c, _ := plan.Named(0, n)
		near := neighbours(c)
		if len(c.Nodes) != 2+2*n || len(c.Links) != 2*n+2 || !slices.Equal(stations(c), []int{0, 1}) {
			t.Fatalf("Named(0, %d) is %+v", n, c)
		}
		seen := map[int]int{0: 0, 1: 0}
		for _, first := range near[0] {
			// From station 0 on, always away from the node ahead.
			ahead, node := 0, first
			for range n {
				seen[node]++
				if !c.Nodes[node].Bridge || len(near[node]) != 2 {
					t.Fatalf("Named(0, %d): node %d is none of a row", n, node)
				}
				next := near[node][0]
				if next == ahead {
					next = near[node][1]
				}
				ahead, node = node, next
			}
			if node != 1 {
				t.Errorf("Named(0, %d): a row ends at %d", n, node)
			}
		}
		if len(near[0]) != 2 || len(near[1]) != 2 || len(seen) != 2+2*n {
			t.Errorf("Named(0, %d): the rows have the nodes %v", n, seen)
		}
	}
}

// P22.4: kind 1: a ring of n bridges, and two stations, at two bridges each.
func TestNamedRing(t *testing.T) {
	for n := 4; n <= 8; n++ {
		c, _ := plan.Named(1, n)
		near := neighbours(c)
		if len(c.Nodes) != n+2 || len(c.Links) != n+4 || len(stations(c)) != 2 {
			t.Fatalf("Named(1, %d) is %+v", n, c)
		}
		isBridge := func(node int) bool { return c.Nodes[node].Bridge }
		var first int
		for node := range c.Nodes {
			round := slices.DeleteFunc(slices.Clone(near[node]), func(x int) bool { return !isBridge(x) })
			if len(slices.Compact(round)) != 2 || !isBridge(node) && len(near[node]) != 2 {
				t.Fatalf("Named(1, %d): node %d is at %v", n, node, near[node])
			}
			if isBridge(node) {
				first = node
			}
		}
		// Round the ring.
		seen := map[int]int{}
		ahead, node := -1, first
		for range n {
			seen[node]++
			for _, next := range near[node] {
				if isBridge(next) && next != ahead {
					ahead, node = node, next
					break
				}
			}
		}
		if len(seen) != n || node != first {
			t.Errorf("Named(1, %d): round the ring are %v", n, seen)
		}
	}
}

// P22.4: kind 2: bridges 0 and 1, and n stations, each at both.
func TestNamedStar(t *testing.T) {
	for n := 2; n <= 8; n++ {
		c, _ := plan.Named(2, n)
		if len(c.Nodes) != n+2 || len(c.Links) != 2*n || len(stations(c)) != n || !c.Nodes[0].Bridge || !c.Nodes[1].Bridge {
			t.Fatalf("Named(2, %d) is %+v", n, c)
		}
		for node, near := range neighbours(c) {
			if node > 1 && !slices.Equal(near, []int{0, 1}) {
				t.Errorf("Named(2, %d): station %d is at %v", n, node, near)
			}
		}
	}
}

// Each answer of Named is new memory, and its lists share none.
func TestNamedMemory(t *testing.T) {
	eachNamed(t, func(kind, n int, c plan.Conf) {
		kept := copied(c)
		spoilt, _ := plan.Named(kind, n)
		number := 0
		for i := range spoilt.Flows {
			for _, way := range spoilt.Flows[i].Ways {
				for j := range way[:cap(way)] {
					way[:cap(way)][j] = number
				}
				number++
			}
		}
		number = 0
		for _, f := range spoilt.Flows {
			for _, way := range f.Ways {
				if slices.Min(way) != number || slices.Max(way) != number {
					t.Errorf("Named(%d, %d): a way is that of another flow, too", kind, n)
				}
				number++
			}
		}
		clear(spoilt.Nodes[:cap(spoilt.Nodes)])
		clear(spoilt.Links[:cap(spoilt.Links)])
		clear(spoilt.Flows[:cap(spoilt.Flows)])
		again, _ := plan.Named(kind, n)
		if !reflect.DeepEqual(c, kept) || !reflect.DeepEqual(again, kept) {
			t.Errorf("Named(%d, %d) is another one once the answer was changed", kind, n)
		}
	})
}

// holdLonger makes a flow longer, and holds the plan against that of before: only spans of that flow go on longer, or there is none for want of time.
func holdLonger(t *testing.T, c plan.Conf, flow, more int) bool {
	t.Helper()
	before, err := plan.Make(c)
	if err != api.OK {
		t.Fatalf("there is no plan: %d", err)
	}
	c = copied(c)
	c.Flows[flow].Len += more
	after, err := plan.Make(c)
	if err == api.ErrSlot {
		return false
	}
	if err != api.OK || after.Off != before.Off || !slices.Equal(after.Windows, before.Windows) || len(after.Gates) != len(before.Gates) {
		t.Fatalf("with flow %d longer by %d it is %+v, %d, not %+v", flow, more, after, err, before)
	}
	changed := 0
	for e, l := range after.Gates {
		if reflect.DeepEqual(l, before.Gates[e]) {
			continue
		}
		changed++
		isLonger := false
		for i, s := range before.Gates[e].Slots {
			isLonger = isLonger || i < len(l.Slots) && s.Open == top && l.Slots[i].Open == top && l.Slots[i].Len == s.Len+more
		}
		if !isLonger {
			t.Errorf("with flow %d longer by %d, gates of %v are %+v, not %+v", flow, more, e, l, before.Gates[e])
		}
	}
	if hops := len(c.Flows[flow].Ways[0]) + len(c.Flows[flow].Ways[1]); changed != hops {
		t.Errorf("with flow %d longer by %d gates of %d ports are changed, not of %d", flow, more, changed, hops)
	}
	return true
}

// P22.5: of all networks that have names, each flow is made longer as far as it can be, and one more: then it is ErrSlot.
func TestLonger(t *testing.T) {
	eachNamed(t, func(kind, n int, c plan.Conf) {
		for flow := range c.Flows {
			fits, tooMuch := 0, c.Cycle-c.Flows[flow].Len+1
			for tooMuch-fits > 1 {
				more := (fits + tooMuch) / 2
				if holdLonger(t, c, flow, more) {
					fits = more
				} else {
					tooMuch = more
				}
			}
			if fits < 1 {
				t.Errorf("Named(%d, %d): flow %d can't be longer", kind, n, flow)
			}
		}
	})
}

// P22.5: just as long as can be, by hand: until it meets the next one, and until the cycle's end.
func TestLongerByHand(t *testing.T) {
	c := behindEach(2000, 6000)
	// At bridge 2 the first one goes on for 2080 behind its Len, the second one begins 486 behind its Start.
	for _, x := range []struct {
		flow, long int
		want       api.Errno
	}{
		{0, 6000 + 486 - 2000 - 2080, api.OK},
		{0, 6000 + 486 - 2000 - 2080 + 1, api.ErrSlot},
		{1, 10000 - 6000 - 2080, api.OK},
		{1, 10000 - 6000 - 2080 + 1, api.ErrSlot},
		{1, 10000, api.ErrSlot},
		{1, 10001, api.ErrArg},
		{0, 10000, api.ErrSlot},
		{0, 10001, api.ErrArg},
	} {
		c := copied(c)
		c.Flows[x.flow].Len = x.long
		holdErr(t, c, "a longer flow", x.want)
	}
	for more := 1; more <= 2000; more++ {
		isLong := more <= 2106
		if holdLonger(t, c, 0, more) != isLong || holdLonger(t, c, 1, more) != (more <= 1620) {
			t.Fatalf("longer by %d it is otherwise", more)
		}
	}
}

// P22.5: of many networks: longer by little and by much.
func TestLongerMany(t *testing.T) {
	c := chance(3)
	made, refused := 0, 0
	for range 3000 {
		n := c.network()
		if _, err := plan.Make(n); err != api.OK || len(n.Flows) == 0 {
			continue
		}
		for flow := range n.Flows {
			more := 1 + c.below(1<<(1+c.below(17)))
			switch {
			case n.Flows[flow].Len+more > n.Cycle:
			case holdLonger(t, n, flow, more):
				made++
			default:
				refused++
			}
		}
	}
	if made < 1000 || refused < 300 {
		t.Errorf("there are only %d plans, %d refused", made, refused)
	}
}
