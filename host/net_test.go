package host_test

import (
	"testing"

	"sandglass/api"
	"sandglass/bridge"
	"sandglass/host"
	"sandglass/plan"
	"sandglass/ptp"
)

// way is what is under way from one station to another one, each frame with its place among all that were sent.
type way []struct {
	place int
	bytes []byte
}

// P24.2, P24.3: between two stations, on two ways of which each loses some and one is behind, each frame that comes at all is taken just once, as it was sent, also where the numbers begin anew.
func TestTwoStations(t *testing.T) {
	c := chance(3)
	const frames = 150_000
	a := newHost(t, conf(2), maxTime, talks(9, mac1, 0, 1))
	b := newHost(t, conf(3), maxTime, takes(9, mac1, 2, 1))
	var ways [2]way
	came, taken := make([]int, frames), make([]int, frames)
	again, far := 0, 0
	for place := range frames {
		outs, _, err := a.Send(0, []byte{byte(place), byte(place >> 8), byte(place >> 16)})
		if len(outs) != 2 || err != api.OK {
			t.Fatalf("Send is %+v, %d", outs, err)
		}
		if c.below(50) == 0 {
			far = c.below(16)
		}
		for w, most := range [2]int{far, 15 - far} {
			ways[w] = append(ways[w], way{{place, outs[w].Bytes}}...)
			for len(ways[w]) > most {
				x := ways[w][0]
				ways[w] = ways[w][1:]
				if c.below(10) == 0 { // it is lost
					continue
				}
				came[x.place]++
				if _, got := b.In(2-w, x.bytes, 0); len(got) > 0 {
					g := got[0]
					if g.Flow != 0 || g.Seq != x.place%65536 || string(g.Data) != string([]byte{byte(x.place), byte(x.place >> 8), byte(x.place >> 16)}) {
						t.Fatalf("of the frame at place %d is taken %+v", x.place, g)
					}
					taken[x.place]++
				}
			}
		}
	}
	both := 0
	for place, n := range came {
		if taken[place] != min(n, 1) {
			t.Errorf("the frame at place %d came %d times, and is taken %d times", place, n, taken[place])
		}
		again += n - taken[place]
		both += n / 2
	}
	if both < frames*7/10 || both > frames*9/10 {
		t.Errorf("%d came on both ways", both)
	}
	holdCounts(t, b, again, 0)
}

// net is a network of stations and bridges whose links take no time; clocks aren't told.
type net struct {
	t     *testing.T
	c     plan.Conf
	nodes []*bridge.Bridge // nil: a station
	hosts []*host.Host
	ends  []map[int]int // of each station: the flows' ends
	gone  int           // the link that is gone
	got   map[[3]int]int
}

// flowMac is the address of a flow.
func flowMac(flow int) api.Mac { return api.Mac{1, 0, 0, 0, 1, byte(flow)} }

// at is the link's end at a node, and the other one.
func (n *net) at(l, node int) (plan.End, plan.End) {
	ends := n.c.Links[l].Ends
	if ends[0].Node == node {
		return ends[0], ends[1]
	}
	return ends[1], ends[0]
}

// newNet is a network that has a name, without one of its links.
func newNet(t *testing.T, kind, size, gone int) *net {
	t.Helper()
	c, err := plan.Named(kind, size)
	if err != api.OK {
		t.Fatalf("Named(%d, %d) is %d", kind, size, err)
	}
	n := &net{t: t, c: c, gone: gone, nodes: make([]*bridge.Bridge, len(c.Nodes)), hosts: make([]*host.Host, len(c.Nodes)), got: map[[3]int]int{}}
	flows, ends := make([][]bridge.Flow, len(c.Nodes)), make([][]host.End, len(c.Nodes))
	n.ends = make([]map[int]int, len(c.Nodes))
	for i := range n.ends {
		n.ends[i] = map[int]int{}
	}
	for i, f := range c.Flows {
		var first, last [2]int
		for w, way := range f.Ways {
			node := f.From
			for k, l := range way {
				out, in := n.at(l, node)
				if k == 0 {
					first[w] = out.Port
				} else {
					list := flows[node]
					list[len(list)-1].Outs = 1 << out.Port
				}
				last[w], node = in.Port, in.Node
				flows[node] = append(flows[node], bridge.Flow{Vid: 2 + i, Mac: flowMac(i), In: in.Port, Max: f.Size})
			}
			flows[f.To] = flows[f.To][:len(flows[f.To])-1]
		}
		n.ends[f.From][i], n.ends[f.To][i] = len(ends[f.From]), len(ends[f.To])
		ends[f.From] = append(ends[f.From], talks(2+i, flowMac(i), first[0], first[1]))
		ends[f.To] = append(ends[f.To], takes(2+i, flowMac(i), last[0], last[1]))
	}
	for i, x := range c.Nodes {
		p := ptp.Prior{Id: i + 1}
		node := bridge.Conf{Id: i + 1, Ports: x.Ports, Relay: x.Bridge, Prior: [2]ptp.Prior{p, p}, Every: 1000, Flows: flows[i]}
		if !x.Bridge {
			n.hosts[i] = newHost(t, node, maxTime, ends[i]...)
			continue
		}
		n.nodes[i], err = bridge.New(node)
		if err != api.OK {
			t.Fatalf("bridge.New(%+v) is %d", node, err)
		}
	}
	return n
}

// send lets frames go out at a node, and on from there.
func (n *net) send(node int, outs []bridge.Out) {
	n.t.Helper()
	for _, x := range outs {
		for l, link := range n.c.Links {
			from, to := n.at(l, node)
			if l == n.gone || from != (plan.End{Node: node, Port: x.Port}) || link.Ends[0] != from && link.Ends[1] != from {
				continue
			}
			if n.hosts[to.Node] == nil {
				on, _ := n.nodes[to.Node].In(to.Port, x.Bytes, 0)
				n.send(to.Node, on)
				continue
			}
			_, got := n.hosts[to.Node].In(to.Port, x.Bytes, 0)
			for _, g := range got {
				if len(g.Data) != 2 || g.Seq != int(g.Data[1]) {
					n.t.Errorf("node %d takes %+v", to.Node, g)
				}
				n.got[[3]int{to.Node, g.Flow, g.Seq}]++
			}
		}
	}
}

// isWhole tells whether the link that is gone isn't on a way.
func (n *net) isWhole(way []int) bool {
	for _, l := range way {
		if l == n.gone {
			return false
		}
	}
	return true
}

// P24.2, P24.3: in networks that have names each flow's frames are taken once, whichever link is gone; what comes on the other way, too, is Again.
func TestNetworks(t *testing.T) {
	for _, c := range [][2]int{{0, 1}, {0, 6}, {1, 4}, {1, 8}, {2, 2}, {2, 8}} {
		links := len(newNet(t, c[0], c[1], -1).c.Links)
		for gone := -1; gone < links; gone++ {
			n := newNet(t, c[0], c[1], gone)
			again := make([]int, len(n.hosts))
			for seq := range 5 {
				for i, f := range n.c.Flows {
					outs, got, err := n.hosts[f.From].Send(n.ends[f.From][i], []byte{byte(i), byte(seq)})
					if got != seq || err != api.OK {
						t.Fatalf("Send of flow %d is %d, %d", i, got, err)
					}
					n.send(f.From, outs)
					if n.isWhole(f.Ways[0]) && n.isWhole(f.Ways[1]) {
						again[f.To]++
					}
					if k := n.got[[3]int{f.To, n.ends[f.To][i], seq}]; k != 1 {
						t.Errorf("network %v without link %d: flow %d's frame %d is taken %d times", c, gone, i, seq, k)
					}
				}
			}
			if len(n.got) != 5*len(n.c.Flows) {
				t.Errorf("network %v without link %d: taken are %v", c, gone, n.got)
			}
			for i, h := range n.hosts {
				if h != nil {
					holdCounts(t, h, again[i], 0)
					holdBad(t, h, 0)
				}
			}
		}
	}
}
