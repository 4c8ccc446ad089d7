package world_test

import (
	"bytes"
	"slices"
	"testing"

	"sandglass/api"
	"sandglass/bridge"
	"sandglass/osc"
	"sandglass/plan"
	"sandglass/ptp"
	"sandglass/rate"
	"sandglass/world"
)

// holdNew holds New against its error; what is handed in isn't changed.
func holdNew(t *testing.T, what string, s world.Setup, want api.Errno) {
	t.Helper()
	before := text(s)
	w, err := world.New(s)
	if err != want || (w != nil) != (want == api.OK) {
		t.Errorf("%s: New is %v, %d, not %d", what, w != nil, err, want)
	}
	if text(s) != before {
		t.Errorf("%s: New turned what was handed in", what)
	}
}

// fault is what may be wrong with a setup.
type fault struct {
	what string
	do   func(s *world.Setup)
	want api.Errno
}

// faults are all of them, in the order in which they are asked for.
func faults() []fault {
	turn := func(at int, r rate.Rate) osc.Turn { return osc.Turn{At: at, Rate: r} }
	return []fault{
		{"too many nodes", func(s *world.Setup) { s.Plan.Nodes = make([]plan.Node, 17) }, api.ErrMany},
		{"no cycle", func(s *world.Setup) { s.Plan.Cycle = 0 }, api.ErrArg},
		{"a link from a node to itself", func(s *world.Setup) { s.Plan.Links[0].Ends[1] = plan.End{Port: 2} }, api.ErrLink},
		{"a way of no links", func(s *world.Setup) { s.Plan.Flows[0].Ways[0] = nil }, api.ErrPath},
		{"a slot that begins too soon", func(s *world.Setup) { s.Plan.Flows[0].Start = 0 }, api.ErrSlot},
		{"a flow that comes too late", func(s *world.Setup) { s.Plan.Flows[0].Late = 1 }, api.ErrLate},
		{"two flows at one time", func(s *world.Setup) {
			f := s.Plan.Flows[0]
			s.Plan.Flows = append(slices.Clone(s.Plan.Flows), f)
		}, api.ErrSlot},
		{"no clocks", func(s *world.Setup) { s.Clocks = nil }, api.ErrArg},
		{"one clock too few", func(s *world.Setup) { s.Clocks = s.Clocks[:3] }, api.ErrArg},
		{"one clock too many", func(s *world.Setup) { s.Clocks = append(slices.Clone(s.Clocks), even()) }, api.ErrArg},
		{"no delays", func(s *world.Setup) { s.Delays = nil }, api.ErrArg},
		{"one delay too few", func(s *world.Setup) { s.Delays = s.Delays[:3] }, api.ErrArg},
		{"one delay too many", func(s *world.Setup) { s.Delays = append(slices.Clone(s.Delays), [2]int{100, 100}) }, api.ErrArg},
		{"Reset of 0", func(s *world.Setup) { s.Reset = 0 }, api.ErrArg},
		{"Reset below 0", func(s *world.Setup) { s.Reset = -1 }, api.ErrArg},
		{"Reset of least", func(s *world.Setup) { s.Reset = least }, api.ErrArg},
		{"Reset above MaxTime", func(s *world.Setup) { s.Reset = maxTime + 1 }, api.ErrArg},
		{"Reset of most", func(s *world.Setup) { s.Reset = most }, api.ErrArg},
		{"a delay below Low", func(s *world.Setup) { s.Delays[0] = [2]int{89, 100} }, api.ErrLink},
		{"a delay back below Low", func(s *world.Setup) { s.Delays[0] = [2]int{100, 89} }, api.ErrLink},
		{"a delay above High", func(s *world.Setup) { s.Delays[3] = [2]int{111, 100} }, api.ErrLink},
		{"a delay back above High", func(s *world.Setup) { s.Delays[3] = [2]int{100, 111} }, api.ErrLink},
		{"a delay of least", func(s *world.Setup) { s.Delays[1] = [2]int{least, 100} }, api.ErrLink},
		{"a delay of most", func(s *world.Setup) { s.Delays[1] = [2]int{100, most} }, api.ErrLink},
		{"Start below 0", func(s *world.Setup) { s.Clocks[0].Start = -1 }, api.ErrArg},
		{"Start above 2^32", func(s *world.Setup) { s.Clocks[0].Start = 1<<32 + 1 }, api.ErrArg},
		{"Start of most", func(s *world.Setup) { s.Clocks[0].Start = most }, api.ErrArg},
		{"Start of least", func(s *world.Setup) { s.Clocks[0].Start = least }, api.ErrArg},
		{"too many turns", func(s *world.Setup) { s.Clocks[0].Turns = make([]osc.Turn, 65) }, api.ErrMany},
		{"no turn", func(s *world.Setup) { s.Clocks[0].Turns = nil }, api.ErrArg},
		{"a first turn behind 0", func(s *world.Setup) { s.Clocks[0].Turns = []osc.Turn{turn(1, rate.One)} }, api.ErrArg},
		{"two turns at one time", func(s *world.Setup) { s.Clocks[0].Turns = []osc.Turn{turn(0, rate.One), turn(0, rate.One)} }, api.ErrOrder},
		{"a turn above MaxTime", func(s *world.Setup) {
			s.Clocks[0].Turns = []osc.Turn{turn(0, rate.One), turn(maxTime+1, rate.One)}
		}, api.ErrOrder},
		{"a rate too slow", func(s *world.Setup) { s.Clocks[0].Turns = []osc.Turn{turn(0, rate.One-rate.Most-1)} }, api.ErrRate},
		{"a rate too fast", func(s *world.Setup) { s.Clocks[0].Turns = []osc.Turn{turn(0, rate.One+rate.Most+1)} }, api.ErrRate},
		{"One below 0", func(s *world.Setup) { s.Clocks[0].One[0] = -1 }, api.ErrArg},
		{"One above 255", func(s *world.Setup) { s.Clocks[0].One[1] = 256 }, api.ErrArg},
	}
}

// P25.1: each error of New.
func TestFaults(t *testing.T) {
	holdNew(t, "nothing wrong", four(), api.OK)
	for _, f := range faults() {
		s := four()
		f.do(&s)
		holdNew(t, f.what, s, f.want)
	}
	holdNew(t, "an empty setup", world.Setup{}, api.ErrArg)
}

// stage is where a fault stands in the order: layer 22's, then the numbers of things, the delays, and the nodes.
func stage(what int) int {
	for i, end := range []int{7, 18, 24, 100} {
		if what < end {
			return i
		}
	}
	return 4
}

// P25.1: of two faults at once the one that is asked for first; the nodes' one by one, of each its Start, then its Turns, then its One.
func TestTwoFaults(t *testing.T) {
	list := faults()
	for i, f := range list {
		for k, g := range list[i+1:] {
			// Faults of one stage may be of one thing.
			if stage(i) == stage(i+1+k) || f.what == "too many nodes" {
				continue
			}
			s := four()
			g.do(&s)
			f.do(&s)
			holdNew(t, f.what+", "+g.what, s, f.want)
		}
	}
	slow := []osc.Turn{{Rate: 0}}
	for _, c := range []struct {
		what string
		do   func(a, b *world.Clock) // of two nodes
		want api.Errno
	}{
		{"Start, Turns", func(a, b *world.Clock) { a.Start, a.Turns = -1, slow }, api.ErrArg},
		{"Turns, One", func(a, b *world.Clock) { a.Turns, a.One[0] = slow, 256 }, api.ErrRate},
		{"One ahead of another node's Turns", func(a, b *world.Clock) { a.One[1], b.Turns = 256, slow }, api.ErrArg},
		{"Turns ahead of another node's Start", func(a, b *world.Clock) { a.Turns, b.Start = slow, -1 }, api.ErrRate},
		{"Turns ahead of another node's Turns", func(a, b *world.Clock) { a.Turns, b.Turns = make([]osc.Turn, 65), slow }, api.ErrMany},
	} {
		for i := range 3 {
			s := four()
			c.do(&s.Clocks[i], &s.Clocks[i+1])
			holdNew(t, c.what, s, c.want)
		}
	}
	// Each node is asked, station or bridge.
	for i := range 4 {
		s := four()
		s.Clocks[i].One[i%2] = 256
		holdNew(t, "One", s, api.ErrArg)
	}
	// All delays are asked ahead of any clock, one that is too short as one that is too long.
	s := four()
	s.Delays[3][1], s.Clocks[0].Start = 111, -1
	holdNew(t, "a delay, Start", s, api.ErrLink)
}

// P25.1: what is just right: at the bounds of each number.
func TestBounds(t *testing.T) {
	for _, f := range []fault{
		{what: "Reset of 1", do: func(s *world.Setup) { s.Reset = 1 }},
		{what: "Reset of MaxTime", do: func(s *world.Setup) { s.Reset = maxTime }},
		{what: "Low, High", do: func(s *world.Setup) { s.Delays[0] = [2]int{90, 110} }},
		{what: "High, Low", do: func(s *world.Setup) { s.Delays[3] = [2]int{110, 90} }},
		{what: "Start of 2^32", do: func(s *world.Setup) { s.Clocks[1].Start = 1 << 32 }},
		{what: "Start of 1", do: func(s *world.Setup) { s.Clocks[1].Start = 1 }},
		{what: "One of 255", do: func(s *world.Setup) { s.Clocks[1].One = [2]int{255, 255} }},
		{what: "64 turns, up to MaxTime", do: func(s *world.Setup) {
			for i := range 63 {
				s.Clocks[2].Turns = append(s.Clocks[2].Turns, osc.Turn{At: maxTime - 62 + i, Rate: rate.One + rate.Most})
			}
		}},
		{what: "no flows", do: func(s *world.Setup) { s.Plan.Flows = nil }},
		{what: "no links, no flows", do: func(s *world.Setup) { s.Plan.Links, s.Plan.Flows, s.Delays = nil, nil, nil }},
	} {
		s := four()
		f.do(&s)
		holdNew(t, f.what, s, api.OK)
	}
}

// P25.1: at true time 0 nothing was sent, and all links are there; the plan is Make's.
func TestNew(t *testing.T) {
	for _, s := range []world.Setup{two(), four(), named(t, 0, 1), named(t, 1, 4), named(t, 2, 8)} {
		w := newWorld(t, s)
		p, _ := plan.Make(s.Plan)
		if w.Now() != 0 || text(w.Plan()) != text(p) || len(p.Gates) == 0 {
			t.Errorf("at %d the plan is %+v, not %+v", w.Now(), w.Plan(), p)
		}
		if len(w.Sent()) != 0 || len(w.Got()) != 0 || len(w.Others()) != 0 {
			t.Errorf("there are %v, %v, %v", w.Sent(), w.Got(), w.Others())
		}
		holdLost(t, w, 0, 0, 0)
		linked := map[plan.End]bool{}
		for _, l := range s.Plan.Links {
			linked[l.Ends[0]], linked[l.Ends[1]] = true, true
		}
		for i, n := range s.Plan.Nodes {
			_, roles := w.Roles(i, 0)
			for port := range n.Ports {
				if linked[plan.End{Node: i, Port: port}] != (roles[port] != 0) {
					t.Errorf("node %d's ports are %v", i, roles)
				}
			}
			if _, ok := w.Time(i); ok {
				t.Errorf("node %d has a time ahead of its first tick", i)
			}
		}
	}
}

// P25.1: what is handed in isn't kept.
func TestKeepsNothing(t *testing.T) {
	s, same := named(t, 2, 2), named(t, 2, 2)
	v, w := newWorld(t, s), newWorld(t, same)
	clear(s.Plan.Nodes)
	clear(s.Plan.Links)
	for i := range s.Plan.Flows {
		clear(s.Plan.Flows[i].Ways[0])
	}
	clear(s.Plan.Flows)
	for i := range s.Clocks {
		clear(s.Clocks[i].Turns)
	}
	clear(s.Clocks)
	clear(s.Delays)
	run(t, v, 700_000)
	run(t, w, 700_000)
	holdSame(t, v, w)
	if len(w.Got()) < 8 {
		t.Errorf("taken are %v", w.Got())
	}
}

// P25.2: a node's Id is one more than its place, its Class 6, and its One each domain's own.
func TestPriors(t *testing.T) {
	s := four()
	for i := range s.Clocks {
		s.Clocks[i].One = [2]int{10 + i, 20 - i}
	}
	w := newWorld(t, s)
	for i := range 4 {
		for d, want := range []ptp.Prior{{One: 10 + i, Class: 6, Id: i + 1}, {One: 20 - i, Class: 6, Id: i + 1}} {
			if got, _ := w.Roles(i, d); got != want {
				t.Errorf("node %d is %+v in domain %d, not %+v", i, got, d, want)
			}
		}
	}
}

// P25.2: a node has as many ports as its Plan says, and 1, if that has none; gates 0 to 6 of that one are always open, 7 never.
func TestPorts(t *testing.T) {
	s := clocks(plan.Conf{Nodes: []plan.Node{{}, {Bridge: true}, {Ports: 1}, {Ports: 8, Bridge: true}}, Cycle: 100, Every: never, Grain: 1})
	w := newWorld(t, s)
	for i, want := range []int{1, 1, 1, 8} {
		if _, roles := w.Roles(i, 0); len(roles) != want {
			t.Errorf("node %d has %d ports, not %d", i, len(roles), want)
		}
	}
	for p := range 6 {
		do(t, w, world.Step{K: world.Say, N: 0, P: p, To: all})
		run(t, w, small)
		holdLost(t, w, 0, p+1, 0)
	}
	// An answer goes out, too, and what is behind it.
	do(t, w, world.Step{K: world.Guest, N: 0, I: 0, Bytes: carry(t, ptp.Msg{Kind: ptp.Req})})
	run(t, w, small)
	holdLost(t, w, 0, 8, 0)
	holdDo(t, w, world.Step{K: world.Say, N: 0, I: 1, To: all}, api.ErrPort)
	holdDo(t, w, world.Step{K: world.Guest, N: 1, I: 1}, api.ErrPort)
}

// P25.2: a bridge has a flow for each way on which it lies, with its ports there and its Size, and none for any other one; a station passes nothing on.
func TestFlows(t *testing.T) {
	s := named(t, 1, 5)
	w := newWorld(t, s)
	for i, n := range s.Plan.Nodes {
		for flow, f := range s.Plan.Flows {
			outs := map[int]int{} // by the ports where it comes in
			for _, way := range f.Ways {
				in, at := -1, f.From
				for _, l := range way {
					a, b := s.Plan.Links[l].Ends[0], s.Plan.Links[l].Ends[1]
					if a.Node != at {
						a, b = b, a
					}
					if a.Node == i && in >= 0 {
						outs[in] = a.Port
					}
					in, at = b.Port, b.Node
				}
			}
			for port := range n.Ports {
				x := flowing(t, flow, 7, make([]byte, f.Size-30)...)
				got, _ := w.Node(i).In(port, x, 0)
				out, ok := outs[port]
				switch {
				case !n.Bridge || !ok:
					if len(got) != 0 {
						t.Errorf("node %d lets flow %d pass from port %d: %+v", i, flow, port, got)
					}
				case len(got) != 1 || got[0].Port != out || got[0].Class != bridge.Top || !bytes.Equal(got[0].Bytes, x):
					t.Errorf("node %d lets flow %d pass from port %d as %+v, not to port %d", i, flow, port, got, out)
				}
				long := w.Node(i).Counts()[bridge.Long]
				w.Node(i).In(port, flowing(t, flow, 7, make([]byte, f.Size-29)...), 0)
				if n.Bridge && ok != (w.Node(i).Counts()[bridge.Long] == long+1) {
					t.Errorf("node %d, port %d: a frame of flow %d is too long %d times", i, port, flow, w.Node(i).Counts()[bridge.Long]-long)
				}
			}
		}
	}
}

// P25.2: a flow whose end is a bridge has no station there: nothing sets out, or nothing is taken.
func TestBridgeAtEnd(t *testing.T) {
	s := two()
	s.Plan.Nodes[1].Bridge = true
	w := newWorld(t, s)
	run(t, w, 200_000)
	if sent := ofFlow(w, 0); len(sent) != 2 || len(ofFlow(w, 1)) != 0 || len(w.Got()) != 0 {
		t.Errorf("sent is %v, taken %v", w.Sent(), w.Got())
	}
	dropped := 0
	for _, n := range w.Node(1).Counts() {
		dropped += n
	}
	if dropped != 4 {
		t.Errorf("the bridge counts %v", w.Node(1).Counts())
	}
}

// P25.2: a station's ends are in the order of the flows: what it sends and takes of several is each flow's own.
func TestEnds(t *testing.T) {
	s := named(t, 2, 3)
	w := newWorld(t, s)
	run(t, w, 3*s.Plan.Cycle)
	for flow := range s.Plan.Flows {
		sent, got := ofFlow(w, flow), gotOf(w, flow)
		if len(sent) != 3 || len(got) != 3 {
			t.Fatalf("of flow %d set out %v, and %v are taken", flow, sent, got)
		}
		for i := range got {
			if sent[i].Seq != i || got[i].Seq != i || got[i].Data[8] != byte(flow) {
				t.Errorf("of flow %d %v is taken as %v", flow, sent[i], got[i])
			}
		}
	}
}
