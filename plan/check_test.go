package plan_test

import (
	"strconv"
	"testing"

	"sandglass/api"
	"sandglass/plan"
)

// full is a network of 16 bridges with 8 ports each, all of them joined: 64 links; each node to the next four.
func full() plan.Conf {
	c := plan.Conf{Cycle: 1 << 20, Every: 1000, Grain: 1}
	for range 16 {
		c.Nodes = append(c.Nodes, plan.Node{Ports: 8, Bridge: true})
	}
	for node := range c.Nodes {
		for step := range 4 {
			c.Links = append(c.Links, link(node, 2*step, (node+step+1)%16, 2*step+1, 0, 0))
		}
	}
	return c
}

// twoLinks is a network of two stations with two links between them, and so many flows, each behind the one ahead.
func twoLinks(flows int) plan.Conf {
	c := plan.Conf{
		Nodes: []plan.Node{{Ports: 2}, {Ports: 2}},
		Links: []plan.Link{link(0, 0, 1, 0, 0, 0), link(0, 1, 1, 1, 0, 0)},
		Cycle: 1 << 20, Every: 1000, Grain: 1,
	}
	for i := range flows {
		c.Flows = append(c.Flows, plan.Flow{From: 0, To: 1, Ways: [2][]int{{0}, {1}}, Start: 1000 * (i + 1), Size: 64, Late: 512})
	}
	return c
}

// P22.2: 16 and 17 nodes, 64 and 65 links, 16 and 17 flows.
func TestMany(t *testing.T) {
	make1(t, full())
	make1(t, twoLinks(16))
	c := full()
	c.Flows = twoLinks(16).Flows
	c.Flows[0].From = -1
	holdErr(t, c, "the most of all, of which one flow is wrong", api.ErrArg)

	c = full()
	c.Nodes = append(c.Nodes, plan.Node{})
	holdErr(t, c, "17 nodes", api.ErrMany)
	c = full()
	c.Links = append(c.Links, link(0, 0, 1, 0, 0, 0))
	holdErr(t, c, "65 links", api.ErrMany)
	c = full()
	c.Links = c.Links[:63]
	make1(t, c)
	holdErr(t, twoLinks(17), "17 flows", api.ErrMany)
	c = twoLinks(17)
	c.Flows[0].From = -1
	c.Links[0].Low = -1
	c.Cycle = 0
	holdErr(t, c, "17 flows, and much else", api.ErrMany)
	holdErr(t, plan.Conf{Flows: make([]plan.Flow, 17)}, "17 flows of nothing", api.ErrMany)
	holdErr(t, plan.Conf{Links: make([]plan.Link, 65)}, "65 links of nothing", api.ErrMany)
	holdErr(t, plan.Conf{Nodes: make([]plan.Node, 1000)}, "1000 nodes", api.ErrMany)
}

// P22.2: nodes, at least 2.
func TestFewNodes(t *testing.T) {
	holdErr(t, plan.Conf{}, "nothing", api.ErrArg)
	for nodes := range 17 {
		c := bare(nodes, 1000, 0, 1)
		if nodes < 2 {
			holdErr(t, c, strconv.Itoa(nodes)+" nodes", api.ErrArg)
			continue
		}
		p := make1(t, c)
		if len(p.Windows) != 0 || len(p.Gates) != 0 {
			t.Errorf("of nothing there is %+v", p)
		}
	}
}

// P22.2: each number of a network at its ends, and one beyond.
func TestNumbers(t *testing.T) {
	for _, x := range []struct {
		what        string
		of          func(c *plan.Conf) *int
		first, last int
	}{
		{"Cycle", func(c *plan.Conf) *int { return &c.Cycle }, 1, 1 << 30},
		{"Every", func(c *plan.Conf) *int { return &c.Every }, 1000, 1 << 30},
		{"Ppm", func(c *plan.Conf) *int { return &c.Ppm }, 0, 1000},
		{"Grain", func(c *plan.Conf) *int { return &c.Grain }, 1, 1000},
		{"Proc", func(c *plan.Conf) *int { return &c.Proc }, 0, 1 << 20},
		{"the first node's Ports", func(c *plan.Conf) *int { return &c.Nodes[0].Ports }, 0, 8},
		{"the last node's Ports", func(c *plan.Conf) *int { return &c.Nodes[3].Ports }, 0, 8},
	} {
		c := square()
		c.Links, c.Flows = nil, nil
		for _, number := range []int{x.first, x.first + 1, (x.first + x.last) / 2, x.last - 1, x.last} {
			*x.of(&c) = number
			make1(t, c)
		}
		for _, number := range append([]int{x.first - 1, x.last + 1, -5}, wild...) {
			*x.of(&c) = number
			holdErr(t, c, x.what+" "+strconv.Itoa(number), api.ErrArg)
		}
	}
}

// P22.3: of a network with no flows all ports have gates: 0 to 6 are open, as long as the cycle is.
func TestNoFlows(t *testing.T) {
	c := square()
	c.Flows = nil
	for _, cycle := range []int{1, 2, 10000, 1 << 30} {
		c.Cycle = cycle
		p := make1(t, c)
		if len(p.Gates) != 9 || len(p.Windows) != 0 {
			t.Errorf("there are %d lists of gates", len(p.Gates))
		}
		for node, n := range c.Nodes {
			for port := range n.Ports {
				holdGates(t, p, end(node, port), cycle, others, cycle)
			}
		}
	}
}

// P22.2: a link's end at no node, at no port, at one that is taken; each side of each link.
func TestLinkEnds(t *testing.T) {
	for i := range square().Links {
		for side := range 2 {
			set := func(e plan.End) plan.Conf {
				c := square()
				c.Links[i].Ends[side] = e
				return c
			}
			for _, node := range append([]int{-1, 4, 5}, wild...) {
				holdErr(t, set(end(node, 0)), "no node", api.ErrLink)
			}
			for node, ports := range []int{2, 3, 2, 2} {
				for _, port := range append([]int{-1, ports, ports + 1, 8}, wild...) {
					holdErr(t, set(end(node, port)), "no port", api.ErrLink)
				}
			}
			// All ports are taken but the third one of station 1.
			for j, l := range square().Links {
				for _, e := range l.Ends {
					if e != square().Links[i].Ends[side] {
						holdErr(t, set(e), "taken, as of link "+strconv.Itoa(j), api.ErrLink)
					}
				}
			}
			c := set(end(1, 2))
			c.Flows = nil
			if c.Links[i].Ends[1-side].Node == 1 {
				holdErr(t, c, "both ends at one node", api.ErrLink)
			} else {
				make1(t, c)
			}
		}
	}
	c := square()
	c.Nodes[2].Ports = 1
	holdErr(t, c, "a port fewer than links have", api.ErrLink)
	c = square()
	c.Nodes[1].Ports = 0
	holdErr(t, c, "no ports", api.ErrLink)
}

// P22.2: Low and High at their ends, one beyond, and one below the other.
func TestLinkTimes(t *testing.T) {
	for i := range square().Links {
		set := func(low, high int) plan.Conf {
			c := square()
			c.Flows = nil
			c.Links[i].Low, c.Links[i].High = low, high
			return c
		}
		for _, x := range [][2]int{{0, 0}, {0, 1}, {0, 1 << 20}, {1<<20 - 1, 1 << 20}, {1 << 20, 1 << 20}} {
			make1(t, set(x[0], x[1]))
		}
		for _, x := range [][2]int{{-1, 0}, {-1, -1}, {-1, 1 << 20}, {1, 0}, {50, 49}, {0, 1<<20 + 1}, {1 << 20, 1<<20 - 1}, {1 << 20, 1<<20 + 1}, {1<<20 + 1, 1<<20 + 1}, {0, -1}} {
			holdErr(t, set(x[0], x[1]), "from "+strconv.Itoa(x[0])+" to "+strconv.Itoa(x[1]), api.ErrLink)
		}
		for _, x := range wild {
			holdErr(t, set(x, 5), "wild Low", api.ErrLink)
			holdErr(t, set(5, x), "wild High", api.ErrLink)
			holdErr(t, set(x, x), "both wild", api.ErrLink)
		}
	}
}

// fault is something that is wrong with a network, and the error that tells so.
type fault struct {
	what string
	set  func(c *plan.Conf)
	want api.Errno
}

// flowFaults are those of a flow, those that are told first ahead.
func flowFaults(i int) []fault {
	name := "flow " + strconv.Itoa(i) + ": "
	return []fault{
		{name + "Size", func(c *plan.Conf) { c.Flows[i].Size = 63 }, api.ErrArg},
		{name + "a way of no link", func(c *plan.Conf) { c.Flows[i].Ways[1] = nil }, api.ErrPath},
		{name + "Start", func(c *plan.Conf) { c.Flows[i].Start = 0 }, api.ErrSlot},
		{name + "Late", func(c *plan.Conf) { c.Flows[i].Late = 0 }, api.ErrLate},
	}
}

// P22.2: which error is answered where there are two: what the chapter names first, link by link, flow by flow; spans that meet last of all.
func TestOrder(t *testing.T) {
	faults := []fault{
		{"too many links", func(c *plan.Conf) { c.Links = append(c.Links, make([]plan.Link, 64)...) }, api.ErrMany},
		{"Proc", func(c *plan.Conf) { c.Proc = -1 }, api.ErrArg},
		{"Ports", func(c *plan.Conf) { c.Nodes[3].Ports = 9 }, api.ErrArg},
		{"Low", func(c *plan.Conf) { c.Links[1].Low = -1 }, api.ErrLink},
		{"an end", func(c *plan.Conf) { c.Links[2].Ends[1] = c.Links[0].Ends[0] }, api.ErrLink},
	}
	for i := range 3 {
		faults = append(faults, flowFaults(i)...)
	}
	faults = append(faults, fault{"two flows at one time", func(c *plan.Conf) { c.Flows[4].Start = c.Flows[3].Start }, api.ErrSlot})
	network := func() plan.Conf {
		c := square()
		c.Cycle = 20000
		for i := range 4 {
			f := c.Flows[0]
			f.Start += 3000 * (i + 1)
			f.Ways = [2][]int{{0, 1}, {2, 3}}
			c.Flows = append(c.Flows, f)
		}
		return c
	}
	make1(t, network())
	for i, x := range faults {
		for _, y := range faults[i:] {
			c := network()
			y.set(&c)
			x.set(&c)
			holdErr(t, c, x.what+", and "+y.what, x.want)
		}
	}
	c := network()
	for _, x := range faults[5:] {
		x.set(&c)
	}
	holdErr(t, c, "all that can be wrong with flows", api.ErrArg)
	for _, x := range faults {
		x.set(&c)
	}
	holdErr(t, c, "all", api.ErrMany)
}
