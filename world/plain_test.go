package world_test

import (
	"testing"

	"sandglass/api"
	"sandglass/bridge"
	"sandglass/ether"
	"sandglass/gates"
	"sandglass/host"
	"sandglass/lanes"
	"sandglass/osc"
	"sandglass/plan"
	"sandglass/port"
	"sandglass/ptp"
	"sandglass/stamp"
	"sandglass/world"
)

// thing is something that happens: when it came to be known, and what it does: to which node, -1: to none.
type thing struct {
	known int
	do    func() int
}

// plain is a network that is looked at in each nanosecond: what waits isn't reckoned ahead.
type plain struct {
	s      world.Setup
	p      plan.Plan
	now    int
	known  int
	todo   map[int][]thing // by true time
	nodes  []*plainNode
	talks  []*plainTalk // nil: no station sends it
	there  []bool       // of links
	cuts   []int        // of links
	losing int
	sent   []world.Sent
	got    []world.Got
	others []world.Other
	lost   [3]int
	fates  map[int]int // of each frame that was to go out, how often it came to an end
}

// plainNode is a node of it; of a dead one self is nil.
type plainNode struct {
	clock *osc.Clock
	self  *bridge.Bridge
	host  *host.Host
	flows []int // of its ends
	ports []*plainPort
	asked int // when something happened to it last
	works int // how many frames it lets pass and hasn't got ready yet
}

// plainPort is a port of it, and where its link goes.
type plainPort struct {
	gate  *port.Port
	outs  map[int]bridge.Out
	busy  bool
	since int // when it came to be known that something waits
	link  int // -1: none
	side  int
}

// plainTalk is a flow of a station: its end there, and when it sets out next, by the station's time.
type plainTalk struct{ end, next int }

// newPlain is a network whose setup is right.
func newPlain(t *testing.T, s world.Setup) *plain {
	t.Helper()
	p, err := plan.Make(s.Plan)
	if err != api.OK {
		t.Fatalf("Make is %d", err)
	}
	w := &plain{s: s, p: p, known: len(s.Plan.Flows), todo: map[int][]thing{}, fates: map[int]int{}}
	w.talks = make([]*plainTalk, len(s.Plan.Flows))
	for i := range s.Plan.Nodes {
		w.nodes = append(w.nodes, w.node(t, i))
		w.tickAt(i, 1000*(i+1))
	}
	for l, x := range s.Plan.Links {
		w.there, w.cuts = append(w.there, true), append(w.cuts, 0)
		for side, e := range x.Ends {
			w.nodes[e.Node].ports[e.Port].link = l
			w.nodes[e.Node].ports[e.Port].side = side
			w.nodes[e.Node].self.Link(e.Port, true)
		}
	}
	w.step()
	return w
}

// node is a node, made by the chapter's words.
func (w *plain) node(t *testing.T, i int) *plainNode {
	t.Helper()
	x, c := w.s.Plan.Nodes[i], w.s.Clocks[i]
	n := &plainNode{}
	n.clock, _ = osc.New(stamp.Stamp(c.Start)*ns, w.s.Plan.Grain, c.Turns)
	conf := bridge.Conf{Id: i + 1, Ports: max(1, x.Ports), Relay: x.Bridge, Every: w.s.Plan.Every}
	for d := range 2 {
		conf.Prior[d] = ptp.Prior{One: c.One[d], Class: 6, Id: i + 1}
	}
	var ends []host.End
	for k, f := range w.s.Plan.Flows {
		flow := bridge.Flow{Vid: 2 + k, Mac: world.FlowMac(k), Max: f.Size}
		e := host.End{Flow: flow, Talk: f.From == i}
		for side, way := range f.Ways {
			at, in := f.From, -1
			for _, l := range way {
				a, b := w.s.Plan.Links[l].Ends[0], w.s.Plan.Links[l].Ends[1]
				if a.Node != at {
					a, b = b, a
				}
				switch {
				case a.Node == i && in >= 0:
					flow.In, flow.Outs = in, 1<<a.Port
					conf.Flows = append(conf.Flows, flow)
				case a.Node == i:
					e.Ports[side] = a.Port
				case b.Node == i:
					e.Ports[side] = b.Port
				}
				at, in = b.Node, b.Port
			}
		}
		if f.From == i && !x.Bridge {
			w.talks[k] = &plainTalk{end: len(ends), next: f.Start}
		}
		if f.From == i || f.To == i {
			ends = append(ends, e)
			n.flows = append(n.flows, k)
		}
	}
	var err api.Errno
	if x.Bridge {
		n.self, err = bridge.New(conf)
	} else {
		conf.Flows = nil
		n.host, err = host.New(conf, ends, w.s.Reset)
		n.self = n.host.Node()
	}
	if err != api.OK {
		t.Fatalf("node %d is %d", i, err)
	}
	for k := range conf.Ports {
		l, ok := w.p.Gates[plan.End{Node: i, Port: k}]
		if !ok {
			l = gates.List{Cycle: 1000, Slots: []gates.Slot{{Open: 127, Len: 1000}}}
		}
		g, err := port.New(l, [8]int{16, 16, 16, 16, 16, 16, 32, 32})
		if err != api.OK {
			t.Fatalf("port.New is %d", err)
		}
		n.ports = append(n.ports, &plainPort{gate: g, outs: map[int]bridge.Out{}, link: -1})
	}
	return n
}

// next is the turn of what comes to be known now.
func (w *plain) next() int {
	w.known++
	return w.known
}

// at notes that something will happen.
func (w *plain) at(when int, do func() int) {
	w.todo[when] = append(w.todo[when], thing{w.next(), do})
}

// told is what a node's clock tells now.
func (w *plain) told(i int) stamp.Stamp {
	x, _ := w.nodes[i].clock.At(w.now)
	return x
}

// tickAt lets a node tick at a time, and then again.
func (w *plain) tickAt(i, when int) {
	w.at(when, func() int {
		n := w.nodes[i]
		if n.self == nil {
			return -1
		}
		here := w.told(i)
		next, most := w.now, stamp.Stamp(w.s.Plan.Every)*ns
		for told := here; told-here < most; told, _ = n.clock.At(next) {
			next += max(1, int((most-(told-here))/ns)*120/128) // no clock is faster than 129/128
		}
		w.tickAt(i, next)
		w.wait(i, n.self.Tick(here))
		return i
	})
}

// time is what a node's At tells now, and is as if it had been asked for no time behind the one at which something happened to it last.
func (w *plain) time(i int) (stamp.Stamp, bool) {
	n := w.nodes[i]
	x, ok := n.self.At(w.told(i))
	back, _ := n.clock.At(n.asked)
	n.self.At(back)
	return x, ok
}

// takes is what a node takes as the time now.
func (w *plain) takes(i int) int {
	x, ok := w.time(i)
	if !ok {
		x = w.told(i)
	}
	return min(max(0, x.Floor()), maxTime)
}

// run lets nanoseconds go by.
func (w *plain) run(n int) {
	for range n {
		w.now++
		w.step()
	}
}

// step lets all happen that happens in this nanosecond.
func (w *plain) step() {
	for {
		first := w.first()
		if first == nil {
			break
		}
		if i := first(); i >= 0 {
			w.look(i)
		}
	}
	delete(w.todo, w.now)
}

// first is what happens first of all that happens now: of what is to come, the flows that set out, and the ports at which a frame goes out; nil: nothing.
func (w *plain) first() func() int {
	known := most
	var do func() int
	for k, x := range w.todo[w.now] {
		if x.known < known {
			known = x.known
			do = func() int {
				list := w.todo[w.now]
				w.todo[w.now] = append(list[:k:k], list[k+1:]...)
				return x.do()
			}
		}
	}
	for k, f := range w.s.Plan.Flows {
		if x := w.talks[k]; x != nil && w.nodes[f.From].self != nil && k < known && w.takes(f.From) >= x.next {
			known, do = k, func() int { return f.From }
		}
	}
	for i, n := range w.nodes {
		for _, p := range n.ports {
			if n.self == nil || p.busy || len(p.outs) == 0 || p.since >= known {
				continue
			}
			now := w.takes(i)
			if at, ok := p.gate.When(now); ok && at == now {
				known, do = p.since, func() int { return i }
			}
		}
	}
	return do
}

// look lets a node's flows set out, and frames go out at its ports, if it is time.
func (w *plain) look(i int) {
	n := w.nodes[i]
	if n.self == nil {
		return
	}
	n.asked = w.now
	time := w.takes(i)
	for k, f := range w.s.Plan.Flows {
		for x := w.talks[k]; x != nil && f.From == i && x.next <= time; x.next += w.s.Plan.Cycle {
			if time-x.next > f.Len+w.p.Off {
				continue
			}
			outs, seq, _ := n.host.Send(x.end, flowData(f.Size, x.next/w.s.Plan.Cycle, k))
			w.sent = append(w.sent, world.Sent{Flow: k, Seq: seq, At: w.now})
			w.wait(i, outs)
		}
	}
	for k, p := range n.ports {
		if p.busy {
			continue
		}
		if it, _, ok := p.gate.Next(time); ok {
			w.goOut(i, k, it.Id)
		}
	}
}

// wait lets frames wait.
func (w *plain) wait(i int, outs []bridge.Out) {
	for _, x := range outs {
		p, id := w.nodes[i].ports[x.Port], w.next()
		w.fates[id] = 0
		if p.gate.Put(x.Class, lanes.Item{Id: id, Size: len(x.Bytes), Drop: x.Drop}) == api.ErrFull {
			w.lose(id, world.Full)
			continue
		}
		if len(p.outs) == 0 {
			p.since = id
		}
		p.outs[id] = x
	}
}

// lose counts a frame that was lost.
func (w *plain) lose(id, why int) {
	w.fates[id]++
	w.lost[why]++
}

// goOut lets a frame go out.
func (w *plain) goOut(i, k, id int) {
	n := w.nodes[i]
	p := n.ports[k]
	x := p.outs[id]
	delete(p.outs, id)
	p.busy = true
	w.at(w.now+8*len(x.Bytes), func() int {
		p.busy = false
		return i
	})
	if p.link < 0 || !w.there[p.link] {
		w.lose(id, world.Gone)
	} else {
		cuts, first := w.cuts[p.link], w.now+w.s.Delays[p.link][p.side]
		to := w.s.Plan.Links[p.link].Ends[1-p.side]
		w.at(first+8*len(x.Bytes), func() int {
			if w.cuts[p.link] != cuts {
				w.lose(id, world.Gone)
				return -1
			}
			w.fates[id]++
			return w.comeIn(to, x.Bytes, first)
		})
	}
	if x.Mark != 0 {
		mark, _ := n.clock.Mark(w.now)
		w.wait(i, n.self.Sent(x.Mark, mark))
	}
}

// comeIn lets bytes come in.
func (w *plain) comeIn(to plan.End, x []byte, first int) int {
	n := w.nodes[to.Node]
	f, err := ether.Decode(x)
	isMessage := err == api.OK && f.Dst == ptpMac
	if w.losing > 0 && isMessage {
		w.losing--
		w.lost[world.Chance]++
		return -1
	}
	here, _ := n.clock.Mark(first)
	var outs []bridge.Out
	var gots []host.Got
	if n.host != nil {
		outs, gots = n.host.In(to.Port, x, here)
	} else {
		outs, _ = n.self.In(to.Port, x, here)
	}
	for _, g := range gots {
		if g.Flow >= 0 {
			w.got = append(w.got, world.Got{Flow: n.flows[g.Flow], Seq: g.Seq, At: w.now, Data: g.Data})
		} else {
			w.others = append(w.others, world.Other{Node: to.Node, Frame: g.Frame})
		}
	}
	if isMessage {
		w.wait(to.Node, outs)
		return to.Node
	}
	for _, x := range outs {
		n.works++
		w.at(w.now+w.s.Plan.Proc, func() int {
			if n.self == nil {
				return -1
			}
			n.works--
			w.wait(to.Node, []bridge.Out{x})
			return to.Node
		})
	}
	return to.Node
}

// do lets a step happen that is right.
func (w *plain) do(s world.Step) {
	switch s.K {
	case world.Run:
		w.run(s.N)
	case world.Guest:
		if i := w.comeIn(plan.End{Node: s.N, Port: s.I}, s.Bytes, w.now); i >= 0 {
			w.look(i)
		}
	case world.Say:
		x, _ := ether.Encode(ether.Frame{Dst: s.To, Src: ether.Of(s.N + 1), Type: 0x801, Data: s.Bytes})
		w.wait(s.N, []bridge.Out{{Port: s.I, Class: s.P, Bytes: x}})
		w.look(s.N)
	case world.Cut:
		w.link(s.N, false)
	case world.Join:
		w.link(s.N, true)
	case world.Kill:
		w.kill(s.N)
	case world.Lose:
		w.losing = s.N
	}
	w.step()
}

// link lets a link go, or be there, unless one of its nodes is dead.
func (w *plain) link(l int, there bool) {
	ends := w.s.Plan.Links[l].Ends
	if there == w.there[l] || there && (w.nodes[ends[0].Node].self == nil || w.nodes[ends[1].Node].self == nil) {
		return
	}
	w.there[l] = there
	if !there {
		w.cuts[l]++
	}
	for _, e := range ends {
		w.nodes[e.Node].self.Link(e.Port, there)
	}
}

// kill stops a node. What waits there is gone.
func (w *plain) kill(i int) {
	n := w.nodes[i]
	if n.self == nil {
		return
	}
	n.self = nil
	w.lost[world.Gone] += n.works
	for _, p := range n.ports {
		for id := range p.outs {
			w.lose(id, world.Gone)
		}
		clear(p.outs)
		if p.link >= 0 {
			w.link(p.link, false)
		}
	}
}
