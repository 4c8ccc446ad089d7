package world

import (
	"sandglass/api"
	"sandglass/bridge"
	"sandglass/ether"
	"sandglass/host"
	"sandglass/lanes"
	"sandglass/plan"
)

// byteTime is how many nanoseconds a byte takes to go out.
const byteTime = 8

// A flow's frame has so many bytes beside its data, which begin with its cycle's number.
const (
	besideData = 30
	cycleBytes = 8
	byteBits   = 8
)

// link is a link, and what is under way on it.
type link struct {
	place   int
	ends    [2]plan.End
	delays  [2]int
	isThere bool
	cuts    int         // how often it went
	ways    [2][]flight // from its first end, and from its second one, in order
}

// flight is a frame that is under way.
type flight struct {
	first int // when its first bit comes
	last  int // when it comes in
	turn  int
	cuts  int // of the link, when it set out
	bytes []byte
}

// talk lets a flow set out, if a station takes the time to be that.
func (w *World) talk(i int, t *talk, time int) {
	f := w.flows[t.flow]
	cycle, gone := time/w.cycle, time%w.cycle
	t.next = max(t.next, cycle)
	if t.next > cycle || gone < f.Start {
		return
	}
	t.next = cycle + 1
	if gone > f.Start+f.Len+w.plan.Off {
		return
	}
	data := make([]byte, f.Size-besideData)
	for k := range cycleBytes {
		data[k] = byte(cycle >> (k * byteBits))
	}
	data[cycleBytes] = byte(t.flow)
	outs, seq := w.send(i, t, data)
	w.sent = append(w.sent, Sent{Flow: t.flow, Seq: seq, At: w.Now()})
	w.wait(i, outs...)
}

// send is a flow's next frame at both ports of its station, and its number.
func (w *World) send(i int, t *talk, data []byte) ([]bridge.Out, int) {
	if outs, seq, err := w.nodes[i].host.Send(t.end, data); err == api.OK {
		return outs, seq
	}
	// A frame may be longer than what a station is let send. All of a flow are as long, so
	// that the station's own numbers stay at the first one.
	seq := t.number.Next()
	var outs []bridge.Out
	for _, port := range t.ports {
		bytes, _ := bridge.Numbered(flowOf(t.flow), ether.Of(i+1), seq, data)
		outs = append(outs, bridge.Out{Port: port, Class: bridge.Top, Bytes: bytes})
	}
	return outs, seq
}

// wait lets frames wait at a node's ports.
func (w *World) wait(i int, outs ...bridge.Out) {
	for _, x := range outs {
		d, id := w.nodes[i].doors[x.Port], w.known()
		if d.gate.Put(x.Class, lanes.Item{Id: id, Size: len(x.Bytes), Drop: x.Drop}) != api.OK {
			w.lost[Full]++
			continue
		}
		if len(d.waits) == 0 {
			d.turn = id
		}
		d.waits[id] = x
	}
}

// open lets a frame go out at a port, if none does, and one may.
func (w *World) open(i, place, time int) {
	n := w.nodes[i]
	d := n.doors[place]
	if d.isBusy {
		return
	}
	it, _, ok := d.gate.Next(time)
	if !ok {
		return
	}
	x := d.waits[it.Id]
	delete(d.waits, it.Id)
	d.isBusy = true
	w.put(w.Now()+byteTime*len(x.Bytes), event{what: leaves, place: i, part: place, turn: w.known()})
	w.leave(d, x.Bytes)
	if x.Mark != 0 {
		mark, _ := n.clock.Mark(w.Now())
		w.wait(i, n.self.Sent(x.Mark, mark)...)
	}
}

// leave lets a frame set out over a port's link.
func (w *World) leave(d *door, bytes []byte) {
	l := d.link
	if l == nil || !l.isThere {
		w.lost[Gone]++
		return
	}
	first := w.Now() + l.delays[d.side]
	f := flight{first: first, last: first + byteTime*len(bytes), turn: w.known(), cuts: l.cuts, bytes: bytes}
	l.ways[d.side] = append(l.ways[d.side], f)
	if len(l.ways[d.side]) == 1 {
		w.putFlight(l, d.side)
	}
}

// putFlight notes when the first frame that is under way comes in.
func (w *World) putFlight(l *link, side int) {
	f := l.ways[side][0]
	w.put(f.last, event{what: comes, place: l.place, part: side, turn: f.turn})
}

// come lets the first frame come in that is under way on a link from one of its sides.
func (w *World) come(place, side int) {
	l := w.links[place]
	f := l.ways[side][0]
	l.ways[side] = l.ways[side][1:]
	if len(l.ways[side]) > 0 {
		w.putFlight(l, side)
	}
	// A link to a node that is dead by now went with it.
	if f.cuts != l.cuts {
		w.lost[Gone]++
		return
	}
	to := l.ends[1-side]
	w.in(to.Node, to.Port, f.bytes, f.first)
}

// in lets bytes come in at a node's port, whose first bit came at a true time.
func (w *World) in(i, place int, bytes []byte, first int) {
	if w.losing > 0 && isMessage(bytes) {
		w.losing--
		w.lost[Chance]++
		return
	}
	n := w.nodes[i]
	here, _ := n.clock.Mark(first)
	var outs []bridge.Out
	if n.isBridge {
		outs, _ = n.self.In(place, bytes, here)
	} else {
		var list []host.Got
		outs, list = n.host.In(place, bytes, here)
		w.take(i, list)
	}
	for _, x := range outs {
		if x.Class == bridge.Time {
			w.wait(i, x)
		} else {
			w.work(i, x)
		}
	}
	w.look(i)
}

// take notes what a station takes.
func (w *World) take(i int, list []host.Got) {
	for _, g := range list {
		if g.Flow < 0 {
			w.others = append(w.others, Other{Node: i, Frame: g.Frame})
			continue
		}
		w.got = append(w.got, Got{Flow: w.nodes[i].flows[g.Flow], Seq: g.Seq, At: w.Now(), Data: g.Data})
	}
}

// work notes a frame that a bridge lets pass.
func (w *World) work(i int, out bridge.Out) {
	n := w.nodes[i]
	n.works = append(n.works, work{at: w.Now() + w.proc, turn: w.known(), out: out})
	if len(n.works) == 1 {
		w.putWork(i)
	}
}

// putWork notes when the first frame that a bridge lets pass comes to wait.
func (w *World) putWork(i int) {
	x := w.nodes[i].works[0]
	w.put(x.at, event{what: waits, place: i, turn: x.turn})
}

// ready lets the first frame that a bridge lets pass wait.
func (w *World) ready(i int) {
	n := w.nodes[i]
	x := n.works[0]
	n.works = n.works[1:]
	if len(n.works) > 0 {
		w.putWork(i)
	}
	w.wait(i, x.out)
}

// isMessage tells whether bytes are a frame to where messages go.
func isMessage(b []byte) bool {
	if len(b) < ether.Least || api.Mac(b[:len(api.Mac{})]) != bridge.PtpMac() {
		return false
	}
	_, err := ether.Decode(b)
	return err == api.OK
}
