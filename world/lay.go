package world

import (
	"sandglass/api"
	"sandglass/bridge"
	"sandglass/gates"
	"sandglass/host"
	"sandglass/lanes"
	"sandglass/osc"
	"sandglass/plan"
	"sandglass/port"
	"sandglass/ptp"
	"sandglass/stamp"
)

// mostStart is what a clock tells at most at true time 0.
const mostStart = 1 << 32

// clockClass is the Class of all clocks.
const clockClass = 6

// firstVid is the VLAN of the first flow.
const firstVid = 2

// firstTick is when the first node ticks first, and how far behind it the next one.
const firstTick = 1000

// allButTop is which gates are open at a port without a plan.
const allButTop = 1<<plan.Top - 1

// rooms is how many frames of each class may wait at a port.
var rooms = [lanes.Classes]int{16, 16, 16, 16, 16, 16, 32, 32}

// hop is from where to where a flow goes by a link.
type hop struct {
	out plan.End
	in  plan.End
}

// check tells what is wrong with a setup whose plan is made, but for what its nodes are.
func (s Setup) check() api.Errno {
	if len(s.Clocks) != len(s.Plan.Nodes) || len(s.Delays) != len(s.Plan.Links) || !within(s.Reset, 1, api.MaxTime) {
		return api.ErrArg
	}
	for i, l := range s.Plan.Links {
		for _, delay := range s.Delays[i] {
			if !within(delay, l.Low, l.High) {
				return api.ErrLink
			}
		}
	}
	return api.OK
}

// node is a node that has no links yet.
func (s Setup) node(i int, p plan.Plan) (*node, api.Errno) {
	c := s.Clocks[i]
	if !within(c.Start, 0, mostStart) {
		return nil, api.ErrArg
	}
	clock, err := osc.New(stamp.Stamp(c.Start)*stamp.Unit, s.Plan.Grain, c.Turns)
	if err != api.OK {
		return nil, err
	}
	n := &node{clock: clock, isBridge: s.Plan.Nodes[i].Bridge}
	if n.isBridge {
		n.self, err = bridge.New(s.conf(i))
	} else {
		err = s.station(n, i)
	}
	if err != api.OK {
		return nil, err
	}
	for place := range s.conf(i).Ports {
		n.doors = append(n.doors, s.door(plan.End{Node: i, Port: place}, p))
	}
	return n, api.OK
}

// conf is what a node is as one of layer 23.
func (s Setup) conf(i int) bridge.Conf {
	x := s.Plan.Nodes[i]
	c := bridge.Conf{Id: i + 1, Ports: max(1, x.Ports), Relay: x.Bridge, Every: s.Plan.Every}
	for d, one := range s.Clocks[i].One {
		c.Prior[d] = ptp.Prior{One: one, Class: clockClass, Id: c.Id}
	}
	if x.Bridge {
		c.Flows = s.passing(i)
	}
	return c
}

// passing is the flows of a bridge: one for each way on which it lies between two links.
func (s Setup) passing(i int) []bridge.Flow {
	var list []bridge.Flow
	for place, f := range s.Plan.Flows {
		for _, way := range f.Ways {
			hops := s.hops(f.From, way)
			for k, h := range hops[1:] {
				if h.out.Node == i {
					x := flowOf(place)
					x.In, x.Outs, x.Max = hops[k].in.Port, 1<<h.out.Port, f.Size
					list = append(list, x)
				}
			}
		}
	}
	return list
}

// station makes a node one that sends flows and takes them.
func (s Setup) station(n *node, i int) api.Errno {
	var ends []host.End
	for place, f := range s.Plan.Flows {
		if f.From != i && f.To != i {
			continue
		}
		e := host.End{Flow: flowOf(place), Talk: f.From == i}
		for side, way := range f.Ways {
			hops := s.hops(f.From, way)
			e.Ports[side] = hops[len(hops)-1].in.Port
			if e.Talk {
				e.Ports[side] = hops[0].out.Port
			}
		}
		if e.Talk {
			n.talks = append(n.talks, &talk{flow: place, end: len(ends), ports: e.Ports})
		}
		ends = append(ends, e)
		n.flows = append(n.flows, place)
	}
	var err api.Errno
	n.host, err = host.New(s.conf(i), ends, s.Reset)
	n.self = n.host.Node()
	return err
}

// hops are what a way is from a node on; Make has seen that its links follow each other.
func (s Setup) hops(from int, way []int) []hop {
	var hops []hop
	for _, place := range way {
		ends := s.Plan.Links[place].Ends
		h := hop{out: ends[0], in: ends[1]}
		if h.out.Node != from {
			h = hop{out: ends[1], in: ends[0]}
		}
		hops = append(hops, h)
		from = h.in.Node
	}
	return hops
}

// door is a port at which nothing waits, and that has no link.
func (s Setup) door(e plan.End, p plan.Plan) *door {
	list, ok := p.Gates[e]
	if !ok {
		list = gates.List{Cycle: s.Plan.Cycle, Slots: []gates.Slot{{Open: allButTop, Len: s.Plan.Cycle}}}
	}
	// Make makes right lists, and the rooms are: New can't refuse these.
	gate, _ := port.New(list, rooms)
	return &door{gate: gate, waits: map[int]bridge.Out{}}
}

// lay lays a link.
func (w *World) lay(ends [2]plan.End, delays [2]int) {
	l := &link{place: len(w.links), ends: ends, delays: delays}
	for side, e := range ends {
		d := w.nodes[e.Node].doors[e.Port]
		d.link, d.side = l, side
	}
	w.links = append(w.links, l)
	w.join(l)
}

// begin lets the nodes look at their clocks first.
func (w *World) begin() {
	for i, n := range w.nodes {
		n.tick = firstTick * (i + 1)
		w.put(n.tick, event{what: ticks, place: i, turn: w.known()})
	}
	for i := range w.nodes {
		w.look(i)
	}
	w.run(0)
}

// flowOf is what a flow is to all its nodes.
func flowOf(place int) bridge.Flow { return bridge.Flow{Vid: firstVid + place, Mac: FlowMac(place)} }

// flowsOf is flows without their ways, which nobody needs any more once the nodes are there.
func flowsOf(flows []plan.Flow) []plan.Flow {
	var list []plan.Flow
	for _, f := range flows {
		f.Ways = [2][]int{}
		list = append(list, f)
	}
	return list
}

// within tells whether a number is one from least to most.
func within(x, least, most int) bool { return x >= least && x <= most }
