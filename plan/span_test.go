package plan_test

import (
	"slices"
	"strconv"
	"testing"

	"sandglass/api"
	"sandglass/plan"
)

// behindEach is the square, with flows that start at some times, each 300 long.
func behindEach(starts ...int) plan.Conf {
	c := square()
	f := c.Flows[0]
	c.Flows = nil
	for _, start := range starts {
		f.Start = start
		f.Ways = [2][]int{{0, 1}, {2, 3}}
		c.Flows = append(c.Flows, f)
	}
	return c
}

// P22.3: a flow's window, and the gates of all ports, by hand: of the frame's 512 ns, twice Off of 536, and 500 that a bridge needs.
func TestPlan(t *testing.T) {
	p := make1(t, square())
	if p.Off != squareOff || len(p.Windows) != 1 || len(p.Gates) != 9 {
		t.Errorf("the plan is %+v", p)
	}
	// The least is that by bridge 2, the greatest that by bridge 3.
	want := plan.Window{Min: 512 + 10 + 500 + 512 + 30, Max: 512 + 6 + 500 + 512 + 110}
	if p.Windows[0] != want {
		t.Errorf("the window is %+v, not %+v", p.Windows[0], want)
	}
	sender := []int{others, 2000 - 536, top, 536 + 300 + 512 + 536, others, 10000 - 3348}
	holdGates(t, p, end(0, 0), 10000, sender...)
	holdGates(t, p, end(0, 1), 10000, sender...)
	// 512, 10 to 20, and 500 later.
	holdGates(t, p, end(2, 1), 10000, others, 2000+1022-536, top, 536+300+10+512+536, others, 10000-4380)
	// 512, 5 or 6, and 500 later.
	holdGates(t, p, end(3, 1), 10000, others, 2000+1017-536, top, 536+300+1+512+536, others, 10000-4366)
	for _, e := range []plan.End{end(1, 0), end(1, 1), end(1, 2), end(2, 0), end(3, 0)} {
		holdGates(t, p, e, 10000, others, 10000)
	}
}

// P22.3: ways of unlike lengths: Min and Max are the least and the greatest of both, whichever is the first.
func TestWindow(t *testing.T) {
	for _, x := range []struct {
		lows, highs [4]int
		want        plan.Window
	}{
		{[4]int{0, 0, 0, 0}, [4]int{0, 0, 0, 0}, plan.Window{Min: 1524, Max: 1524}},
		{[4]int{1, 2, 4, 8}, [4]int{1, 2, 4, 8}, plan.Window{Min: 1527, Max: 1536}},
		{[4]int{4, 8, 1, 2}, [4]int{4, 8, 1, 2}, plan.Window{Min: 1527, Max: 1536}},
		{[4]int{4, 8, 1, 2}, [4]int{4, 8, 50, 2}, plan.Window{Min: 1527, Max: 1576}},
		{[4]int{1, 2, 4, 8}, [4]int{50, 2, 4, 8}, plan.Window{Min: 1527, Max: 1576}},
		{[4]int{1, 2, 4, 8}, [4]int{1, 2, 4, 60}, plan.Window{Min: 1527, Max: 1588}},
	} {
		c := square()
		for i := range c.Links {
			c.Links[i].Low, c.Links[i].High = x.lows[i], x.highs[i]
		}
		if p := make1(t, c); p.Windows[0] != x.want {
			t.Errorf("the window of %v to %v is %+v, not %+v", x.lows, x.highs, p.Windows[0], x.want)
		}
	}
	c := square()
	c.Proc = 0
	if p := make1(t, c); p.Windows[0] != (plan.Window{Min: 1064, Max: 1140}) {
		t.Errorf("without Proc the window is %+v", p.Windows[0])
	}
	c.Flows[0].Size, c.Flows[0].Late = 100, 2000
	if p := make1(t, c); p.Windows[0] != (plan.Window{Min: 1640, Max: 1716}) {
		t.Errorf("of 100 bytes the window is %+v", p.Windows[0])
	}
	c = row(4)
	c.Proc = 7
	if p := make1(t, c); p.Windows[0] != (plan.Window{Min: 522, Max: 3*532 + 2*7}) {
		t.Errorf("by two bridges, and straight, the window is %+v", p.Windows[0])
	}
}

// P22.3: each flow's window stands at its place.
func TestWindows(t *testing.T) {
	c := behindEach(2000, 6000)
	c.Flows[0].Size = 65
	c.Flows = append(c.Flows, plan.Flow{From: 1, To: 2, Ways: [2][]int{{1}, {3, 2, 0}}, Start: 2000, Size: 66, Late: 1 << 20})
	c.Nodes[0].Bridge = true
	p := make1(t, c)
	want := []plan.Window{{Min: 1580, Max: 1656}, {Min: 1564, Max: 1640}, {Min: 528 + 30, Max: 3*528 + 2*500 + 110 + 6 + 20}}
	if !slices.Equal(p.Windows, want) {
		t.Errorf("the windows are %+v, not %+v", p.Windows, want)
	}
}

// P22.2: a span that begins just at 0, and one below; one that ends just at Cycle, and one above.
func TestSpanEnds(t *testing.T) {
	for _, x := range []struct {
		start, long, cycle int
		want               api.Errno
	}{
		{536, 300, 10000, api.OK},
		{535, 300, 10000, api.ErrSlot},
		{0, 300, 10000, api.ErrSlot},
		{2000, 300, 4380, api.OK},
		{2000, 300, 4379, api.ErrSlot},
		{2000, 5920, 10000, api.OK},
		{2000, 5921, 10000, api.ErrSlot},
		{7920, 0, 10000, api.OK},
		{7921, 0, 10000, api.ErrSlot},
		{10000, 0, 10000, api.ErrSlot},
		{536, 0, 2616, api.OK},
		{536, 0, 2615, api.ErrSlot},
	} {
		c := square()
		c.Flows[0].Start, c.Flows[0].Len, c.Cycle = x.start, x.long, x.cycle
		holdErr(t, c, "start "+strconv.Itoa(x.start)+", "+strconv.Itoa(x.long)+" long, of "+strconv.Itoa(x.cycle), x.want)
		// The other way round: what ends last goes out on the second way.
		c.Flows[0].Ways[0], c.Flows[0].Ways[1] = c.Flows[0].Ways[1], c.Flows[0].Ways[0]
		holdErr(t, c, "by the other way first", x.want)
		// That is told ahead of what is too late.
		c.Flows[0].Late = 1639
		if x.want == api.OK {
			x.want = api.ErrLate
		}
		holdErr(t, c, "too late besides", x.want)
	}
}

// P22.3: gates of ports at which a span begins at 0, or ends at Cycle: slots without time are left out.
func TestGatesAtEnds(t *testing.T) {
	c := square()
	c.Flows[0].Start, c.Cycle = 536, 2916
	p := make1(t, c)
	holdGates(t, p, end(0, 0), 2916, top, 1884, others, 2916-1884)
	holdGates(t, p, end(0, 1), 2916, top, 1884, others, 2916-1884)
	holdGates(t, p, end(2, 1), 2916, others, 1022, top, 1894)
	holdGates(t, p, end(3, 1), 2916, others, 1017, top, 1885, others, 14)
	holdGates(t, p, end(1, 2), 2916, others, 2916)
	// From 0 to Cycle: 108 is how far the clocks are.
	c = twoLinks(1)
	c.Flows[0].Start, c.Flows[0].Len, c.Cycle = 216, 56, 1000
	p = make1(t, c)
	holdGates(t, p, end(0, 0), 1000, top, 1000)
	holdGates(t, p, end(0, 1), 1000, top, 1000)
	holdGates(t, p, end(1, 0), 1000, others, 1000)
	for _, change := range []func(c *plan.Conf){
		func(c *plan.Conf) { c.Flows[0].Start-- },
		func(c *plan.Conf) { c.Flows[0].Start++ },
		func(c *plan.Conf) { c.Flows[0].Len++ },
		func(c *plan.Conf) { c.Cycle-- },
		func(c *plan.Conf) { c.Links[0].High++ }, // the clocks are further from each other
		func(c *plan.Conf) { c.Flows[0].Size++ },
	} {
		c := copied(c)
		change(&c)
		holdErr(t, c, "no more room", api.ErrSlot)
	}
}

// P22.2: Max just at Late, and one above; it is told ahead of what is wrong with flows behind.
func TestLate(t *testing.T) {
	for _, x := range []struct {
		late int
		want api.Errno
	}{{1640, api.OK}, {1641, api.OK}, {1639, api.ErrLate}, {1564, api.ErrLate}, {1563, api.ErrLate}, {1, api.ErrLate}} {
		c := behindEach(2000, 6000)
		for i := range c.Flows {
			c := copied(c)
			c.Flows[i].Late = x.late
			holdErr(t, c, "Late "+strconv.Itoa(x.late)+" of flow "+strconv.Itoa(i), x.want)
		}
	}
}

// P22.2, P22.3: spans of a port that meet, and that share a time: the last port is that where they are longest.
func TestMeet(t *testing.T) {
	// At bridge 2 the first one goes on until 2000 + 300 + 2080, the second one begins at 486 behind its Start.
	const meets = 2000 + 300 + 2080 - 486
	for _, turned := range []bool{false, true} {
		set := func(starts ...int) plan.Conf {
			if turned {
				slices.Reverse(starts)
			}
			return behindEach(starts...)
		}
		p := make1(t, set(2000, meets))
		holdGates(t, p, end(2, 1), 10000, others, 2486, top, 1894, top, 1894, others, 10000-4380-1894)
		holdGates(t, p, end(0, 0), 10000, others, 1464, top, 1884, others, 10, top, 1884, others, 10000-3348-1894)
		holdGates(t, p, end(3, 1), 10000, others, 2481, top, 1885, others, 9, top, 1885, others, 10000-4366-1894)
		for _, start := range []int{meets - 1, meets - 9, meets - 10, meets - 11, 3000, 2001, 2000, 1999, 1000, 2000 - (meets - 2000) + 1} {
			holdErr(t, set(2000, start), "the other one at "+strconv.Itoa(start), api.ErrSlot)
		}
		make1(t, set(2000+meets-2000, 2000))
		p = make1(t, set(2000, meets, meets+1894))
		holdGates(t, p, end(2, 1), 10000, others, 2486, top, 1894, top, 1894, top, 1894, others, 10000-2486-3*1894)
	}
	// The last one of all begins at 0 and ends with the cycle: nothing else is left.
	c := twoLinks(3)
	for i, start := range []int{2216, 216, 1216} {
		c.Flows[i].Start, c.Flows[i].Len = start, 56
	}
	c.Cycle = 3000
	holdGates(t, make1(t, c), end(0, 1), 3000, top, 1000, top, 1000, top, 1000)
}

// P22.2: one span within another one, and one that reaches over two, told in all orders.
func TestShare(t *testing.T) {
	for _, x := range []struct {
		starts, lens [3]int
		want         api.Errno
	}{
		{[3]int{1000, 3000, 5000}, [3]int{0, 0, 0}, api.OK},
		{[3]int{1000, 3000, 5000}, [3]int{1056, 1056, 0}, api.OK},
		{[3]int{1000, 3000, 5000}, [3]int{1057, 0, 0}, api.ErrSlot},
		{[3]int{1000, 3000, 5000}, [3]int{0, 1057, 0}, api.ErrSlot},
		{[3]int{1000, 3000, 5000}, [3]int{6000, 0, 0}, api.ErrSlot},
		{[3]int{1000, 1000, 5000}, [3]int{6000, 0, 0}, api.ErrSlot},
		{[3]int{1000, 3000, 3000}, [3]int{0, 0, 0}, api.ErrSlot},
		{[3]int{3000, 3000, 3000}, [3]int{0, 100, 200}, api.ErrSlot},
	} {
		for _, order := range [][3]int{{0, 1, 2}, {0, 2, 1}, {1, 0, 2}, {1, 2, 0}, {2, 0, 1}, {2, 1, 0}} {
			c := twoLinks(3)
			for i, flow := range order {
				// A span is 944 longer than its Len.
				c.Flows[i].Start, c.Flows[i].Len = x.starts[flow], x.lens[flow]
			}
			holdErr(t, c, "three flows", x.want)
		}
	}
}

// hub is a network of stations 0, 1 and 2, each at bridges 3 and 4, without flows; station s's link to bridge 3 is at 2 s, that to bridge 4 behind it.
func hub() plan.Conf {
	c := plan.Conf{Nodes: []plan.Node{{Ports: 2}, {Ports: 2}, {Ports: 2}, {3, true}, {3, true}}, Cycle: 1 << 20, Every: 1000, Grain: 1}
	for station := range 3 {
		for side := range 2 {
			c.Links = append(c.Links, link(station, side, 3+side, station, 0, 0))
		}
	}
	return c
}

// across is a flow of that network.
func across(from, to, start int) plan.Flow {
	return plan.Flow{From: from, To: to, Ways: [2][]int{{2 * from, 2 * to}, {2*from + 1, 2*to + 1}}, Start: start, Size: 64, Late: 1 << 20}
}

// P22.2: flows share a time where they go out at one port: only there, and though they came from elsewhere.
func TestShareWhere(t *testing.T) {
	for _, x := range []struct {
		a, b [2]int
		want api.Errno
	}{
		{[2]int{0, 1}, [2]int{1, 0}, api.OK}, // against each other
		{[2]int{0, 1}, [2]int{1, 2}, api.OK},
		{[2]int{0, 1}, [2]int{2, 0}, api.OK},
		{[2]int{0, 1}, [2]int{0, 2}, api.ErrSlot}, // from one station
		{[2]int{0, 1}, [2]int{2, 1}, api.ErrSlot}, // to one station
		{[2]int{0, 1}, [2]int{0, 1}, api.ErrSlot},
	} {
		c := hub()
		c.Flows = []plan.Flow{across(x.a[0], x.a[1], 5000), across(x.b[0], x.b[1], 5000)}
		holdErr(t, c, "two flows at a time", x.want)
		// By one of both ways alone.
		c.Flows[1].Ways[0] = c.Flows[1].Ways[1]
		holdErr(t, c, "one way twice", api.ErrPath)
	}
	c := hub()
	c.Flows = []plan.Flow{across(0, 1, 5000), across(1, 2, 5000), across(2, 0, 5000)}
	p := make1(t, c)
	// Off is 4 * 8 and 100; a span is 512 and four times that long.
	for port := range 3 {
		for node := range 3 {
			if port < 2 {
				holdGates(t, p, end(node, port), 1<<20, others, 5000-264, top, 1040, others, 1<<20-5000-776)
			}
		}
		for bridge := 3; bridge < 5; bridge++ {
			holdGates(t, p, end(bridge, port), 1<<20, others, 5512-264, top, 1040, others, 1<<20-5512-776)
		}
	}
}

// P22.3: as many spans at a port as there are flows at most, with time between, and without.
func TestMostSpans(t *testing.T) {
	for _, long := range []int{0, 10, 55, 56} {
		c := twoLinks(16)
		c.Cycle = 20000
		at := 0
		var want []int
		for i := range c.Flows {
			c.Flows[i].Len = long
			begins := 1000*(i+1) - 216
			if begins > at {
				want = append(want, others, begins-at)
			}
			at = begins + 944 + long
			want = append(want, top, 944+long)
		}
		want = append(want, others, 20000-at)
		slices.Reverse(c.Flows)
		p := make1(t, c)
		holdGates(t, p, end(0, 0), 20000, want...)
		holdGates(t, p, end(0, 1), 20000, want...)
	}
}
