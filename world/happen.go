package world

import (
	"cmp"
	"slices"
)

// What happens.
const (
	ticks  = iota // at a node
	sets          // at a node: it is time for a flow
	opens         // at a node: it is time for what waits at a port
	leaves        // at a node: a frame has gone out at a port
	waits         // at a node: a frame comes to wait that it lets pass
	comes         // on a link, from one of its sides: a frame comes in
)

// event is something that happens: where, and when it came to be known.
type event struct {
	what  int
	place int // of the node, or the link
	part  int // the port, or the side
	turn  int
}

// order tells which of two events of one time comes first.
func (e event) order(f event) int { return cmp.Compare(e.turn, f.turn) }

// run lets all happen up to a time.
func (w *World) run(until int) {
	for {
		at, _, e, ok := w.coming.Next(until)
		if !ok {
			break
		}
		w.moment(at, e)
	}
	w.coming.Wait(until)
}

// moment lets all happen that happens at one time. The agenda has its order only for what was put
// there as soon as it was known; of frames in a row it has the first one alone.
func (w *World) moment(at int, first event) {
	due := []event{first}
	for len(due) > 0 {
		for {
			_, _, e, ok := w.coming.Next(at)
			if !ok {
				break
			}
			due = append(due, e)
		}
		slices.SortFunc(due, event.order)
		w.happen(due[0])
		due = due[1:]
	}
}

// happen lets something happen.
func (w *World) happen(e event) {
	if e.what == comes {
		w.come(e.place, e.part)
		return
	}
	n := w.nodes[e.place]
	if n.isDead() {
		return
	}
	switch e.what {
	case ticks:
		w.tick(e.place)
	case leaves:
		n.doors[e.part].isBusy = false
	case waits:
		w.ready(e.place)
	}
	w.look(e.place)
}

// known is the turn of what comes to be known now.
func (w *World) known() int {
	w.turn++
	return w.turn
}

// put notes that something will happen; its number in the agenda.
func (w *World) put(at int, e event) int {
	// Of each node's tick and first work, each flow, port and side of a link there is one at most: there is room.
	entry, _ := w.coming.Put(at, e)
	return entry
}

// tick lets a node tick.
func (w *World) tick(i int) {
	n := w.nodes[i]
	here := n.told(w.Now())
	// True time goes up to half of MaxTime, so there is time for one more tick.
	n.tick, _ = n.clock.When(here + w.every)
	w.put(n.tick, event{what: ticks, place: i, turn: w.known()})
	w.wait(i, n.self.Tick(here)...)
}

// look lets happen at a node what it is time for, and notes when to look again.
func (w *World) look(i int) {
	n := w.nodes[i]
	n.asked = w.Now()
	time := n.takes(n.asked)
	for _, t := range n.talks {
		w.talk(i, t, time)
	}
	for place := range n.doors {
		w.open(i, place, time)
	}
	for _, t := range n.talks {
		w.set(n, &t.alarm, t.next*w.cycle+w.flows[t.flow].Start, event{what: sets, place: i, turn: t.flow})
	}
	for place, d := range n.doors {
		if d.isBusy {
			w.drop(&d.alarm)
		} else if next, ok := d.gate.When(time); ok {
			w.set(n, &d.alarm, next, event{what: opens, place: i, part: place, turn: d.turn})
		}
	}
}

// set sets an alarm to when a node takes the time to be one to come.
func (w *World) set(n *node, a *alarm, time int, e event) {
	at, ok := n.when(w.Now(), time)
	if ok && a.entry != 0 && a.at == at {
		return
	}
	w.drop(a)
	if ok {
		*a = alarm{at: at, entry: w.put(at, e)}
	}
}

// drop takes an alarm back.
func (w *World) drop(a *alarm) {
	if a.entry != 0 {
		w.coming.Drop(a.entry)
		*a = alarm{}
	}
}
