package world

import (
	"sandglass/api"
	"sandglass/bridge"
	"sandglass/ether"
)

// What a step's numbers may be.
const (
	mostRun  = 1 << 30
	mostNow  = api.MaxTime / 2
	mostLose = 1 << 20
)

// typeSaid is the type of frames that the script lets stations send.
const typeSaid = 0x0801

// Do lets a step happen.
func (w *World) Do(s Step) api.Errno {
	// One that New didn't make has no agenda, and does no more than a nil one.
	if w == nil || w.coming == nil {
		return api.ErrArg
	}
	err := w.step(s)
	w.run(w.Now())
	return err
}

// step lets a step happen, but for what comes of it at once.
func (w *World) step(s Step) api.Errno {
	switch s.K {
	case Run:
		return w.goOn(s.N)
	case Guest:
		return w.guest(s)
	case Say:
		return w.say(s)
	case Cut, Join:
		if !within(s.N, 0, len(w.links)-1) {
			return api.ErrLink
		}
		if s.K == Cut {
			w.cut(w.links[s.N])
		} else {
			w.join(w.links[s.N])
		}
		return api.OK
	case Kill:
		return w.kill(s.N)
	case Lose:
		if !within(s.N, 0, mostLose) {
			return api.ErrArg
		}
		w.losing = s.N
		return api.OK
	}
	return api.ErrArg
}

// goOn lets time go by.
func (w *World) goOn(ns int) api.Errno {
	if !within(ns, 0, mostRun) || w.Now()+ns > mostNow {
		return api.ErrArg
	}
	w.run(w.Now() + ns)
	return api.OK
}

// guest lets bytes come in at a port that has no link.
func (w *World) guest(s Step) api.Errno {
	switch {
	case !w.hasPort(s.N, s.I) || w.nodes[s.N].doors[s.I].link != nil:
		return api.ErrPort
	case !w.isAlive(s.N):
		return api.ErrNone
	}
	w.in(s.N, s.I, s.Bytes, w.Now())
	return api.OK
}

// say lets a station send a frame of no flow.
func (w *World) say(s Step) api.Errno {
	switch {
	case !w.hasPort(s.N, s.I) || w.nodes[s.N].isBridge:
		return api.ErrPort
	case !w.isAlive(s.N):
		return api.ErrNone
	case !within(s.P, 0, bridge.Rest) || s.To == bridge.PtpMac():
		return api.ErrArg
	}
	bytes, err := ether.Encode(ether.Frame{Dst: s.To, Src: ether.Of(s.N + 1), Type: typeSaid, Data: s.Bytes})
	if err != api.OK {
		return err
	}
	w.wait(s.N, bridge.Out{Port: s.I, Class: s.P, Bytes: bytes})
	w.look(s.N)
	return api.OK
}

// cut lets a link go.
func (w *World) cut(l *link) {
	if !l.isThere {
		return
	}
	l.isThere = false
	l.cuts++
	w.tellEnds(l)
}

// join lets a link be there, unless one of its nodes is dead.
func (w *World) join(l *link) {
	for _, e := range l.ends {
		if !w.isAlive(e.Node) {
			return
		}
	}
	l.isThere = true
	w.tellEnds(l)
}

// tellEnds tells both ends of a link whether it is there.
func (w *World) tellEnds(l *link) {
	for _, e := range l.ends {
		w.nodes[e.Node].self.Link(e.Port, l.isThere)
	}
}

// kill stops a node for good. What waits at it goes no further.
func (w *World) kill(i int) api.Errno {
	if !w.hasNode(i) {
		return api.ErrNone
	}
	n := w.nodes[i]
	n.self, n.host = nil, nil
	w.lost[Gone] += len(n.works)
	n.works = nil
	for _, d := range n.doors {
		w.lost[Gone] += d.gate.Clear()
		d.waits = nil
		if d.link != nil {
			w.cut(d.link)
		}
	}
	return api.OK
}

// hasPort tells whether a port of a node is there.
func (w *World) hasPort(i, place int) bool {
	return w.hasNode(i) && within(place, 0, len(w.nodes[i].doors)-1)
}
