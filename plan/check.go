package plan

import (
	"slices"

	"sandglass/api"
	"sandglass/gates"
)

// What the numbers of a network may be.
const (
	leastNodes = 2
	mostLinks  = 64
	leastEvery = 1000
	mostEvery  = 1 << 30
	mostPpm    = 1000
	mostGrain  = 1000
	mostProc   = 1 << 20
	mostHigh   = 1 << 20
	leastSize  = 64
	mostHops   = 16
)

// check tells what is wrong with a network, but for its flows.
func (c Conf) check() api.Errno {
	if len(c.Nodes) > api.MaxNodes || len(c.Links) > mostLinks || len(c.Flows) > MostFlows {
		return api.ErrMany
	}
	switch {
	case len(c.Nodes) < leastNodes,
		!within(c.Cycle, 1, gates.MostCycle),
		!within(c.Every, leastEvery, mostEvery),
		!within(c.Ppm, 0, mostPpm),
		!within(c.Grain, 1, mostGrain),
		!within(c.Proc, 0, mostProc):
		return api.ErrArg
	}
	for _, n := range c.Nodes {
		if !within(n.Ports, 0, api.MaxPorts) {
			return api.ErrArg
		}
	}
	return c.checkLinks()
}

// checkLinks tells whether each link is between two nodes' ports that no other one has.
func (c Conf) checkLinks() api.Errno {
	taken := map[End]struct{}{}
	for _, l := range c.Links {
		for _, e := range l.Ends {
			if _, ok := taken[e]; ok || !c.hasPort(e) {
				return api.ErrLink
			}
			taken[e] = struct{}{}
		}
		if l.Ends[0].Node == l.Ends[1].Node || l.Low < 0 || !within(l.High, l.Low, mostHigh) {
			return api.ErrLink
		}
	}
	return api.OK
}

// checkFlow tells what is wrong with a flow, but for its ways and times.
func (c Conf) checkFlow(f Flow) api.Errno {
	switch {
	case !c.hasNode(f.From), !c.hasNode(f.To), f.From == f.To,
		!within(f.Start, 0, c.Cycle),
		!within(f.Len, 0, c.Cycle),
		!within(f.Size, leastSize, api.MaxFrame),
		f.Late < 0:
		return api.ErrArg
	}
	return api.OK
}

// ways are a flow's, if they are ways from one of its ends to the other, apart from each other.
func (c Conf) ways(f Flow) ([2][]hop, api.Errno) {
	var ways [2][]hop
	for i, links := range f.Ways {
		way, ok := c.hops(f.From, f.To, links)
		if !ok {
			return [2][]hop{}, api.ErrPath
		}
		ways[i] = way
	}
	for _, place := range f.Ways[0] {
		if slices.Contains(f.Ways[1], place) {
			return [2][]hop{}, api.ErrPath
		}
	}
	// Each hop but the first one begins at a node between.
	for _, h := range ways[0][1:] {
		if goesThrough(ways[1], h.out.Node) {
			return [2][]hop{}, api.ErrPath
		}
	}
	return ways, api.OK
}

// hops are what links make of a way from one node to another; false: they make none.
func (c Conf) hops(from, to int, links []int) ([]hop, bool) {
	if len(links) == 0 || len(links) > mostHops {
		return nil, false
	}
	var way []hop
	at := from
next:
	for i, place := range links {
		// Where it goes on from a node, that one is between.
		if i > 0 && !c.Nodes[at].Bridge || place < 0 || place >= len(c.Links) {
			return nil, false
		}
		l := c.Links[place]
		for side, e := range l.Ends {
			if e.Node == at {
				way = append(way, hop{link: l, out: e})
				at = l.Ends[1-side].Node
				if goesThrough(way, at) {
					return nil, false
				}
				continue next
			}
		}
		return nil, false
	}
	return way, at == to
}

// goesThrough tells whether a way begins at a node, or goes on from it.
func goesThrough(way []hop, node int) bool {
	return slices.ContainsFunc(way, func(h hop) bool { return h.out.Node == node })
}

// hasNode tells whether a node is there.
func (c Conf) hasNode(node int) bool { return node >= 0 && node < len(c.Nodes) }

// hasPort tells whether a port of a node is there.
func (c Conf) hasPort(e End) bool {
	return c.hasNode(e.Node) && e.Port >= 0 && e.Port < c.Nodes[e.Node].Ports
}

// within tells whether a number is from a least to a most one.
func within(x, least, most int) bool { return x >= least && x <= most }
