package plan_test

import (
	"slices"
	"strconv"
	"testing"

	"sandglass/api"
	"sandglass/plan"
)

// with is the square, with its flow changed.
func with(change func(f *plan.Flow)) plan.Conf {
	c := square()
	change(&c.Flows[0])
	return c
}

// P22.2: From and To, at no node, and both at one.
func TestFlowEnds(t *testing.T) {
	for _, node := range append([]int{-1, 4, 5, 16}, wild...) {
		holdErr(t, with(func(f *plan.Flow) { f.From = node }), "From "+strconv.Itoa(node), api.ErrArg)
		holdErr(t, with(func(f *plan.Flow) { f.To = node }), "To "+strconv.Itoa(node), api.ErrArg)
		holdErr(t, with(func(f *plan.Flow) { f.From, f.To = node, node }), "both "+strconv.Itoa(node), api.ErrArg)
	}
	for node := range 4 {
		holdErr(t, with(func(f *plan.Flow) { f.From, f.To = node, node }), "both one", api.ErrArg)
		for other := range 4 {
			if node == other || node == 0 && other == 1 {
				continue
			}
			// They are nodes, but the ways don't go from one to the other.
			holdErr(t, with(func(f *plan.Flow) { f.From, f.To = node, other }), "from elsewhere, or to", api.ErrPath)
		}
	}
}

// P22.2: each number of a flow at its ends, and one beyond.
func TestFlowNumbers(t *testing.T) {
	for _, x := range []struct {
		what        string
		of          func(f *plan.Flow) *int
		first, last int
		want        [2]api.Errno // at the ends
	}{
		{"Start", func(f *plan.Flow) *int { return &f.Start }, 0, 10000, [2]api.Errno{api.ErrSlot, api.ErrSlot}},
		{"Len", func(f *plan.Flow) *int { return &f.Len }, 0, 10000, [2]api.Errno{api.OK, api.ErrSlot}},
		{"Size", func(f *plan.Flow) *int { return &f.Size }, 64, 1600, [2]api.Errno{api.OK, api.ErrSlot}},
		{"Late", func(f *plan.Flow) *int { return &f.Late }, 0, most, [2]api.Errno{api.ErrLate, api.OK}},
	} {
		set := func(number int) plan.Conf { return with(func(f *plan.Flow) { *x.of(f) = number }) }
		holdErr(t, set(x.first), x.what+" at its least", x.want[0])
		holdErr(t, set(x.last), x.what+" at its most", x.want[1])
		beyond := []int{x.first - 1, least, -1 << 40}
		if x.last < most {
			beyond = append(beyond, x.last+1, 1<<40, most)
		}
		for _, number := range beyond {
			holdErr(t, set(number), x.what+" "+strconv.Itoa(number), api.ErrArg)
		}
	}
	c := with(func(f *plan.Flow) { f.Size, f.Late = 1600, 1<<40 })
	c.Cycle = 100000
	make1(t, c)
}

// holdWay holds Make of a network against a way of its flow, as the first one and as the second one.
func holdWay(t *testing.T, c plan.Conf, way []int, want api.Errno) {
	t.Helper()
	for side := range 2 {
		c := copied(c)
		c.Flows[0].Ways[side] = way
		holdErr(t, c, "a way of "+strconv.Itoa(side)+": links "+string(list(way)), want)
	}
}

// list is some numbers as a text.
func list(numbers []int) []byte {
	var b []byte
	for _, x := range numbers {
		b = append(strconv.AppendInt(b, int64(x), 10), ' ')
	}
	return b
}

// P22.2: a way of no link; of places where there is none; that doesn't hang together; that ends elsewhere.
func TestWay(t *testing.T) {
	c := square()
	for _, place := range append([]int{-1, 4, 5, 64}, wild...) {
		holdWay(t, c, []int{place}, api.ErrPath)
		for _, way := range [][]int{{0, 1}, {2, 3}} {
			for at := range 3 {
				holdWay(t, c, slices.Insert(slices.Clone(way), at, place), api.ErrPath)
			}
			holdWay(t, c, []int{way[0], place}, api.ErrPath)
			holdWay(t, c, []int{place, way[1]}, api.ErrPath)
		}
	}
	for _, way := range [][]int{
		nil, {}, {0}, {1}, {2}, {3}, // to a bridge, or not from the sender
		{1, 0}, {3, 2}, {0, 3}, {2, 1}, {0, 2}, {1, 3}, // the wrong way round, and not together
		{0, 1, 3}, {0, 1, 3, 2}, {0, 1, 1}, {0, 0, 1}, {0, 0}, {2, 2, 2, 3}, // further, and back
	} {
		holdWay(t, c, way, api.ErrPath)
	}
	// A link in between that is at other nodes, which nothing else goes by.
	c.Nodes = append(c.Nodes, plan.Node{Ports: 1, Bridge: true}, plan.Node{Ports: 1, Bridge: true})
	c.Links = append(c.Links, link(4, 0, 5, 0, 0, 0))
	make1(t, c)
	for side, way := range c.Flows[0].Ways {
		for at := range 3 {
			c := copied(c)
			c.Flows[0].Ways[side] = slices.Insert(slices.Clone(way), at, 4)
			holdErr(t, c, "a link elsewhere", api.ErrPath)
		}
	}
	// Both ways wrong.
	c.Flows[0].Ways = [2][]int{}
	holdErr(t, c, "no ways", api.ErrPath)
	c.Flows[0].Ways = [2][]int{{2, 3}, {0, 1}}
	make1(t, c)
}

// P22.2: where the ends of a link stand makes no difference to a way.
func TestWayEnds(t *testing.T) {
	want := make1(t, square())
	for turned := range 16 {
		c := square()
		for i := range c.Links {
			if turned>>i&1 == 1 {
				slices.Reverse(c.Links[i].Ends[:])
			}
		}
		if p := make1(t, c); p.Windows[0] != want.Windows[0] || len(p.Gates[end(2, 1)].Slots) != 3 || len(p.Gates[end(2, 0)].Slots) != 1 {
			t.Errorf("with ends turned round: %+v", p)
		}
	}
}

// row is a network of nodes in a row, all bridges but the ends, and one more link from one end to the other, for the other way.
func row(nodes int) plan.Conf {
	c := plan.Conf{Cycle: 1 << 24, Every: 1000, Grain: 1}
	for node := range nodes {
		c.Nodes = append(c.Nodes, plan.Node{Ports: 8, Bridge: node > 0 && node < nodes-1})
		if node > 0 {
			c.Links = append(c.Links, link(node-1, 0, node, 1, 10, 20))
		}
	}
	c.Links = append(c.Links, link(0, 2, nodes-1, 2, 10, 20))
	c.Flows = []plan.Flow{{From: 0, To: nodes - 1, Ways: [2][]int{rising(nodes - 1), {nodes - 1}}, Start: 1 << 20, Size: 64, Late: 1 << 30}}
	return c
}

// rising are the numbers below one.
func rising(n int) []int {
	var list []int
	for i := range n {
		list = append(list, i)
	}
	return list
}

// P22.2: the longest ways that there are; with 16 links, and with 17, a way comes to a node twice.
func TestLongWay(t *testing.T) {
	for nodes := 2; nodes <= 16; nodes++ {
		c := row(nodes)
		p := make1(t, c)
		want := plan.Window{Min: 512 + 10, Max: (nodes - 1) * (512 + 20)}
		if p.Windows[0] != want {
			t.Errorf("of %d nodes the window is %+v, not %+v", nodes, p.Windows[0], want)
		}
		c.Flows[0].Ways[0], c.Flows[0].Ways[1] = c.Flows[0].Ways[1], c.Flows[0].Ways[0]
		if p := make1(t, c); p.Windows[0] != want {
			t.Errorf("of %d nodes, turned round, the window is %+v", nodes, p.Windows[0])
		}
	}
	c := row(16)
	for links := 16; links <= 40; links++ {
		// To the last node but one, and to and fro there.
		way := rising(15)
		for len(way) < links {
			way = append(way, 14)
		}
		holdWay(t, c, way, api.ErrPath)
	}
	holdWay(t, c, make([]int, 100000), api.ErrPath)
	// A ring of 16 nodes, once round: 16 links, that come home.
	c.Flows[0].To = 0
	c.Flows[0].Ways = [2][]int{rising(16), {15}}
	holdErr(t, c, "once round", api.ErrArg)
}

// P22.2: a way that comes to a node twice: to its beginning, to one between, to its end.
func TestWayTwice(t *testing.T) {
	// Bridges 0 to 3 in a row, by two links each, and one link from each end to the other.
	c := plan.Conf{Cycle: 1 << 20, Every: 1000, Grain: 1}
	for range 4 {
		c.Nodes = append(c.Nodes, plan.Node{Ports: 8, Bridge: true})
	}
	for node := range 3 {
		c.Links = append(c.Links, link(node, 0, node+1, 1, 0, 0), link(node, 2, node+1, 3, 0, 0))
	}
	c.Links = append(c.Links, link(0, 4, 3, 4, 0, 0), link(1, 5, 3, 5, 0, 0))
	c.Flows = []plan.Flow{{From: 0, To: 3, Ways: [2][]int{{0, 2, 4}, {6}}, Start: 1 << 19, Size: 64, Late: 1 << 20}}
	make1(t, c)
	for _, way := range [][]int{{1, 2, 4}, {0, 3, 4}, {0, 3, 5}, {1, 3, 5}, {0, 7}, {1, 7}} {
		c.Flows[0].Ways = [2][]int{way, {6}}
		make1(t, c)
	}
	c.Flows[0].Ways = [2][]int{{0, 2, 4}, {6}}
	for _, way := range [][]int{
		{0, 1, 6},         // back to the beginning, and by the other link
		{0, 1, 0, 2, 4},   // the same, and on
		{0, 2, 3, 2, 4},   // to the second one twice
		{0, 2, 3, 7},      // the same, and away
		{0, 2, 4, 5, 4},   // to the end, and back to it
		{0, 7, 4, 5},      // to the end, on, and back to it
		{0, 7, 4, 3, 7},   // and by another one
		{6, 4, 5},         // at once to the end, on, and back to it
		{6, 6, 6},         // to and fro
		{0, 2, 4, 6},      // home
		{0, 2, 4, 6, 6},   // home, and back
		{0, 2, 2, 2, 4},   // to and fro by one link
		{6, 7}, {6, 7, 7}, // through the end
		{6, 4, 3, 1, 0, 7}, // all of it
	} {
		holdWay(t, c, way, api.ErrPath)
	}
}

// P22.2: nodes between are bridges; the ends may be.
func TestWayStation(t *testing.T) {
	for node := range 4 {
		c := square()
		c.Nodes[node].Bridge = !c.Nodes[node].Bridge
		if node < 2 {
			make1(t, c)
		} else {
			holdErr(t, c, "through a station", api.ErrPath)
		}
	}
	for _, node := range []int{1, 7, 14} {
		c := row(16)
		c.Nodes[node].Bridge = false
		holdErr(t, c, "through a station in a long row", api.ErrPath)
		c.Flows[0].Ways[0], c.Flows[0].Ways[1] = c.Flows[0].Ways[1], c.Flows[0].Ways[0]
		holdErr(t, c, "through a station in a long row, by the other way", api.ErrPath)
	}
}

// P22.2: two ways share a link, or a node between.
func TestWaysApart(t *testing.T) {
	c := square()
	for _, way := range c.Flows[0].Ways {
		c := copied(c)
		c.Flows[0].Ways = [2][]int{way, way}
		holdErr(t, c, "one way twice", api.ErrPath)
		c.Flows[0].Ways = [2][]int{way, slices.Clone(way)}
		holdErr(t, c, "one way twice", api.ErrPath)
	}
	// Straight from one to the other: by two links, and by one.
	make1(t, twoLinks(1))
	for place := range 2 {
		c := twoLinks(1)
		c.Flows[0].Ways = [2][]int{{place}, {place}}
		holdErr(t, c, "one link", api.ErrPath)
	}
	// Bridges 2, 3 and 4: each joined to both ends, and to each other, by two links each.
	c = plan.Conf{Nodes: []plan.Node{{Ports: 8}, {Ports: 8}, {8, true}, {8, true}, {8, true}}, Cycle: 1 << 20, Every: 1000, Grain: 1}
	ports := make([]int, 5)
	for _, x := range [][2]int{{0, 2}, {0, 3}, {0, 4}, {1, 2}, {1, 3}, {1, 4}, {2, 3}, {3, 4}, {4, 2}} {
		for range 2 {
			c.Links = append(c.Links, link(x[0], ports[x[0]], x[1], ports[x[1]], 0, 0))
			ports[x[0]]++
			ports[x[1]]++
		}
	}
	c.Flows = []plan.Flow{{From: 0, To: 1, Start: 1 << 19, Size: 64, Late: 1 << 20}}
	for _, x := range []struct {
		a, b []int
		want api.Errno
	}{
		{[]int{0, 6}, []int{2, 8}, api.OK},
		{[]int{0, 6}, []int{1, 7}, api.ErrPath},               // by node 2, by other links
		{[]int{0, 6}, []int{2, 12, 7}, api.ErrPath},           // its second one
		{[]int{2, 12, 6}, []int{1, 7}, api.ErrPath},           // the first one's second one
		{[]int{0, 12, 8}, []int{4, 10}, api.OK},               // by 2 and 3, and by 4
		{[]int{0, 12, 8}, []int{4, 14, 9}, api.ErrPath},       // 3 is the second one of both
		{[]int{0, 12, 8}, []int{3, 13, 7}, api.ErrPath},       // both by the same ones, the other way round
		{[]int{0, 12, 8}, []int{2, 15, 10}, api.ErrPath},      // the second one of one, the first one of the other
		{[]int{0, 12, 14, 10}, []int{5, 11}, api.ErrPath},     // the last one of one
		{[]int{0, 12, 14, 10}, []int{3, 9}, api.ErrPath},      // the middle one
		{[]int{0, 6}, []int{4, 14, 8}, api.OK},                // by 2, and by 4 and 3
		{[]int{0, 6}, []int{4, 14, 13, 7}, api.ErrPath},       // by 2, and by all
		{[]int{0, 12, 14, 10}, []int{0, 6}, api.ErrPath},      // one link is shared
		{[]int{0, 12, 14, 10}, []int{3, 14, 11}, api.ErrPath}, // one between
	} {
		for side := range 2 {
			c.Flows[0].Ways[side], c.Flows[0].Ways[1-side] = x.a, x.b
			holdErr(t, c, string(list(x.a))+"and "+string(list(x.b)), x.want)
		}
	}
}
