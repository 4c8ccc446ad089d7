package world

import (
	"sort"

	"sandglass/api"
	"sandglass/bridge"
	"sandglass/host"
	"sandglass/osc"
	"sandglass/port"
	"sandglass/seqr"
	"sandglass/stamp"
)

// A clock runs by true time, and a domain by a clock, at most 1/128 faster: as a node's time
// goes on by 64 nanoseconds, true time goes on by 63 at least.
const (
	farOf   = 64
	farTrue = farOf - 1
)

// node is a node of the network.
type node struct {
	isBridge bool
	clock    *osc.Clock
	self     *bridge.Bridge // nil: it is dead
	host     *host.Host     // of a station
	doors    []*door
	talks    []*talk // what a station sends
	flows    []int   // of a station's ends
	works    []work  // of a bridge, in order
	tick     int     // when it ticks next
	asked    int     // when it was asked for its time last
}

// door is a port, and what waits at it.
type door struct {
	gate   *port.Port
	waits  map[int]bridge.Out // by their Ids at the port
	isBusy bool               // a frame is going out
	turn   int                // when it came to be known that something waits
	link   *link              // nil: it has none
	side   int                // of the link
	alarm
}

// talk is a flow that a station sends.
type talk struct {
	flow   int
	end    int // of the station
	ports  [2]int
	number seqr.Gen // if its frames are longer than what a station is let send
	next   int      // the first cycle in which it may still set out
	alarm
}

// alarm is when to look at something again.
type alarm struct {
	at    int
	entry int // its number in the agenda; 0: there is none
}

// work is a frame that a bridge lets pass, ahead of waiting at its port.
type work struct {
	at   int // when it comes to wait
	turn int
	out  bridge.Out
}

// isDead tells whether a node has stopped.
func (n *node) isDead() bool { return n.self == nil }

// told is what a node's clock tells at a true time.
func (n *node) told(at int) stamp.Stamp {
	s, _ := n.clock.At(at)
	return s
}

// at is what a node's At tells at a true time, if nothing happens there until then.
func (n *node) at(at int) (stamp.Stamp, bool) {
	s, ok := n.self.At(n.told(at))
	if at != n.asked {
		// At holds one domain's clock to the other one's: asked once more for the last
		// time, the node is as if it had not been asked for this one.
		n.self.At(n.told(n.asked))
	}
	return s, ok
}

// takes is what a node takes as the time at a true time, if nothing happens there until then.
func (n *node) takes(at int) int {
	s, ok := n.at(at)
	if !ok {
		s = n.told(at)
	}
	return s.Clamp(0, api.MaxTime*stamp.Unit).Floor()
}

// when is the first true time behind now, and ahead of the next tick, at which a node takes the
// time to be a time to come, or a later one, if nothing happens there until then; false: there is none.
func (n *node) when(now, time int) (int, bool) {
	left := time - n.takes(now)
	for now < n.tick-1 {
		// Sooner it can't come, unless the node's time jumps as a domain is fresh no more.
		far := min(max(1, (left-1)*farTrue/farOf), n.tick-1-now)
		left = time - n.takes(now+far)
		if left <= 0 {
			return now + 1 + sort.Search(far-1, func(k int) bool { return n.takes(now+1+k) >= time }), true
		}
		now += far
	}
	return 0, false
}
