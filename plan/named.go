package plan

import (
	"slices"

	"sandglass/api"
)

// The kinds of networks that have names.
const (
	twoRows = 0
	ring    = 1
	star    = 2
)

// namedFlows is how many flows a network has that has a name.
const namedFlows = 8

// Named is a network of a kind: 0 two rows of n bridges side by side, 1 a ring of n bridges with two stations each at two of them, 2 two bridges with n stations at both; with eight flows.
func Named(kind, n int) (Conf, api.Errno) {
	c := Conf{Cycle: 4_000_000, Every: 500_000, Ppm: 100, Grain: 8, Proc: 1000}
	switch {
	case kind == twoRows && within(n, 1, 6):
		c.layRows(n)
	case kind == ring && within(n, 4, 8):
		c.layRing(n)
	case kind == star && within(n, 2, 8):
		c.layStar(n)
	default:
		return Conf{}, api.ErrArg
	}
	return c, api.OK
}

// layRows lays stations 0 and 1, and two rows of bridges from one to the other.
func (c *Conf) layRows(n int) {
	from, to := c.node(false), c.node(false)
	var ways [2][]int
	for i := range ways {
		row := []int{from}
		for range n {
			row = append(row, c.node(true))
		}
		ways[i] = c.join(append(row, to)...)
	}
	c.toAndFro(from, to, ways)
}

// layRing lays bridges 0 and so on in a ring, and behind them two stations, each at two neighbours, so that one half of the ring is a way, and the other half another one.
func (c *Conf) layRing(n int) {
	for range n {
		c.node(true)
	}
	from, to := c.node(false), c.node(false)
	half := n / 2
	rising, falling := []int{from}, []int{from, 0}
	for i := range half {
		rising = append(rising, i+1)
	}
	for i := n - 1; i > half; i-- {
		falling = append(falling, i)
	}
	ways := [2][]int{c.join(append(rising, to)...), c.join(append(falling, to)...)}
	c.join(0, 1)
	c.join(half, half+1)
	c.toAndFro(from, to, ways)
}

// layStar lays bridges 0 and 1, and behind them stations at both; each sends to the next one.
func (c *Conf) layStar(n int) {
	bridges := [2]int{c.node(true), c.node(true)}
	links := make([][2]int, n)
	for i := range links {
		station := c.node(false)
		for side, bridge := range bridges {
			links[i][side] = c.join(station, bridge)[0]
		}
	}
	for i := range namedFlows {
		from, to := i%n, (i+1)%n
		var ways [2][]int
		for side := range ways {
			ways[side] = []int{links[from][side], links[to][side]}
		}
		c.flow(len(bridges)+from, len(bridges)+to, ways)
	}
}

// node puts one more node behind the others, that has no ports.
func (c *Conf) node(isBridge bool) int {
	c.Nodes = append(c.Nodes, Node{Bridge: isBridge})
	return len(c.Nodes) - 1
}

// join lays links from each node of a row to the next one, at ports of their own.
func (c *Conf) join(row ...int) []int {
	var links []int
	for i, node := range row[1:] {
		links = append(links, len(c.Links))
		ends := [2]End{c.port(row[i]), c.port(node)}
		c.Links = append(c.Links, Link{Ends: ends, Low: 90, High: 100})
	}
	return links
}

// port gives a node one more port.
func (c *Conf) port(node int) End {
	end := End{Node: node, Port: c.Nodes[node].Ports}
	c.Nodes[node].Ports++
	return end
}

// toAndFro puts flows from one node to another one, and back, by turns.
func (c *Conf) toAndFro(one, other int, ways [2][]int) {
	for i := range namedFlows {
		from, to := one, other
		own := [2][]int{slices.Clone(ways[0]), slices.Clone(ways[1])}
		if i%2 == 1 {
			from, to = to, from
			slices.Reverse(own[0])
			slices.Reverse(own[1])
		}
		c.flow(from, to, own)
	}
}

// flow puts one more flow behind the others; each has a part of the cycle to itself.
func (c *Conf) flow(from, to int, ways [2][]int) {
	c.Flows = append(c.Flows, Flow{
		From:  from,
		To:    to,
		Ways:  ways,
		Start: 200_000 + 400_000*len(c.Flows),
		Len:   10_000,
		Size:  200,
		Late:  1_000_000,
	})
}
