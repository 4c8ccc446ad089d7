package world_test

import (
	"math/rand"
	"testing"

	"sandglass/osc"
	"sandglass/rate"
	"sandglass/stamp"
	"sandglass/world"
)

// flowData is what a flow's frame says.
func flowData(size, cycle, flow int) []byte {
	data := make([]byte, size-30)
	for k := range 8 {
		data[k] = byte(cycle >> (8 * k))
	}
	data[8] = byte(flow)
	return data
}

// P25.4: a flow sets out at Start in each cycle, once; its frames come when they have gone over its way, and say which cycle and which flow: also those that are longer than what a station is let send.
func TestSetsOut(t *testing.T) {
	for _, size := range []int{64, 65, 100, 1530, 1531, 1600} {
		s := two()
		s.Plan.Flows[0].Size = size
		s.Delays = [][2]int{{95, 100}, {98, 92}}
		w := newWorld(t, s)
		run(t, w, 10*s.Plan.Cycle)
		for flow, first := range []int{95, 92} { // the shorter way's delay, of those there and back
			f := s.Plan.Flows[flow]
			sent, got := ofFlow(w, flow), gotOf(w, flow)
			if len(sent) != 10 || len(got) != 10 {
				t.Fatalf("flow %d set out %d times, and was taken %d times", flow, len(sent), len(got))
			}
			for c := range 10 {
				at := c*s.Plan.Cycle + f.Start
				if sent[c] != (world.Sent{Flow: flow, Seq: c, At: at}) {
					t.Errorf("in cycle %d sets out %+v", c, sent[c])
				}
				if want := (world.Got{Flow: flow, Seq: c, At: at + 8*f.Size + first, Data: flowData(f.Size, c, flow)}); text(got[c]) != text(want) {
					t.Errorf("in cycle %d is taken %+v, not %+v", c, got[c], want)
				}
			}
		}
		if n := len(w.Sent()); n != 20 || len(w.Got()) != 20 || len(w.Others()) != 0 {
			t.Errorf("there are %d sent, %d got, %d others", n, len(w.Got()), len(w.Others()))
		}
		holdLost(t, w, 0, 0, 0)
	}
}

// P25.4: flows that set out at one true time do so in order.
func TestSetOutTogether(t *testing.T) {
	s := named(t, 2, 3)
	s.Plan.Every = never
	for i := range s.Plan.Flows[:3] {
		// From three stations, each to the next one: no two meet at a port.
		s.Plan.Flows[i].Start = 400_000
	}
	s.Plan.Flows, s.Plan.Ppm = s.Plan.Flows[:3], 0
	w := newWorld(t, s)
	run(t, w, 5*s.Plan.Cycle)
	for k, x := range w.Sent() {
		if x != (world.Sent{Flow: k % 3, Seq: k / 3, At: k/3*s.Plan.Cycle + 400_000}) {
			t.Errorf("at place %d sets out %+v", k, x)
		}
	}
	if len(w.Sent()) != 15 || len(w.Got()) != 15 {
		t.Errorf("sent are %v, taken %v", w.Sent(), w.Got())
	}
}

// P25.4: a cycle's number is told in eight bytes, the lowest first, also where it is a great one.
func TestCycleNumbers(t *testing.T) {
	for _, start := range []int{255 * 100_000, 256 * 100_000, 65_535 * 60_000, 1 << 32} {
		s := two()
		for i := range s.Clocks {
			s.Clocks[i].Start = start
		}
		w := newWorld(t, s)
		run(t, w, 3*s.Plan.Cycle)
		sent, got := ofFlow(w, 0), gotOf(w, 0)
		if len(sent) < 2 || len(got) != len(sent) {
			t.Fatalf("sent are %v, taken %v", sent, got)
		}
		for i, x := range sent {
			cycle := (start + x.At) / s.Plan.Cycle
			if x.Seq != i || start+x.At != cycle*s.Plan.Cycle+20_000 || text(got[i].Data) != text(flowData(100, cycle, 0)) {
				t.Errorf("from %d on: sent is %+v, taken %+v", start, x, got[i])
			}
		}
	}
}

// P25.4: numbers go on behind 65535 with 0, and each is taken once.
func TestManyNumbers(t *testing.T) {
	s := two()
	s.Plan.Flows = s.Plan.Flows[1:]
	s.Plan.Cycle, s.Plan.Flows[0].Start, s.Plan.Flows[0].Len = 2000, 700, 0
	w := newWorld(t, s)
	const frames = 70_000
	run(t, w, frames*s.Plan.Cycle)
	sent, got := w.Sent(), w.Got()
	if len(sent) != frames || len(got) != frames {
		t.Fatalf("%d set out, %d are taken", len(sent), len(got))
	}
	for i := range sent {
		if sent[i].Seq != i%65536 || got[i].Seq != i%65536 || text(got[i].Data) != text(flowData(64, i, 0)) {
			t.Fatalf("at place %d are %+v, %+v", i, sent[i], got[i])
		}
	}
}

// P25.4: at its beginning a station takes a time that is behind Start already: up to Len and Off behind it the flow sets out then, later it is missed, and the next cycle's comes.
func TestMissed(t *testing.T) {
	const off, first = 128, 20_000
	for _, cycle := range []int{0, 1, 7} {
		for _, c := range []struct{ behind, at, next int }{
			{-1, 1, 100_001}, {0, 0, 100_000}, {1, 0, 99_999}, {1000, 0, 99_000}, {1000 + off, 0, 98_872},
			{1001 + off, 98_871, 198_871}, {2000, 98_000, 198_000}, {79_999, 20_001, 120_001},
		} {
			s := two()
			s.Clocks[0].Start = cycle*s.Plan.Cycle + first + c.behind
			w := newWorld(t, s)
			if w.Plan().Off != off {
				t.Fatalf("Off is %d", w.Plan().Off)
			}
			run(t, w, 199_000)
			sent := ofFlow(w, 0)
			if len(sent) < 2 || sent[0] != (world.Sent{At: c.at}) || sent[1] != (world.Sent{Seq: 1, At: c.next}) {
				t.Errorf("a station that begins %d behind Start of cycle %d sends %+v", c.behind, cycle, sent)
			}
		}
	}
}

// P25.4: a dead station sends nothing, and a station without a link sends all the same.
func TestSendsDeadOrAlone(t *testing.T) {
	s := two()
	w := newWorld(t, s)
	do(t, w, world.Step{K: world.Cut, N: 0}, world.Step{K: world.Cut, N: 1})
	run(t, w, 150_000)
	if len(ofFlow(w, 0)) != 2 || len(w.Got()) != 0 {
		t.Errorf("sent are %v, taken %v", w.Sent(), w.Got())
	}
	before := w.Lost()[world.Gone]
	if before != 6 {
		t.Errorf("lost are %v", w.Lost())
	}
	do(t, w, world.Step{K: world.Kill, N: 0})
	run(t, w, 200_000)
	if len(ofFlow(w, 0)) != 2 || len(ofFlow(w, 1)) != 3 {
		t.Errorf("sent are %v", w.Sent())
	}
}

// talker is what is known of a flow that a station sends, by the times that the station takes, nanosecond by nanosecond.
type talker struct {
	flow  int
	clock *osc.Clock
	time  int // the last one that the station took
	last  int // the last cycle that set out, or was missed
	at    []int
	says  []int // cycles
}

// note notes what the station takes as the time, at a true time, and how often it is what jumps name.
func (x *talker) note(s world.Setup, w *world.World, off int, jumps map[string]int) {
	told, ok := w.Time(s.Plan.Flows[x.flow].From)
	if !ok {
		told, _ = x.clock.At(w.Now())
	}
	f, time := s.Plan.Flows[x.flow], max(0, told.Floor())
	if time < x.time {
		jumps["back"]++
	}
	x.time = time
	for c := x.last + 1; c*s.Plan.Cycle+f.Start <= time; c++ {
		x.last = c
		late := time - (c*s.Plan.Cycle + f.Start)
		switch {
		case late > f.Len+off:
			jumps["missed"]++
			continue
		case late > 1: // at 1/128 more some nanoseconds are left out
			jumps["late"]++
		}
		jumps["sent"]++
		x.at, x.says = append(x.at, w.Now()), append(x.says, c)
	}
}

// P25.4: whatever a station's time does, as others' times come to hold: it jumps ahead, past flows or past cycles, or goes back, so that cycles come again, but not their frames.
func TestJumps(t *testing.T) {
	r := rand.New(rand.NewSource(25))
	jumps := map[string]int{}
	for n := range 40 {
		s := two()
		s.Plan.Every = 5000 + r.Intn(6000)
		s.Plan.Cycle, s.Plan.Ppm = 20_000, 0
		s.Plan.Flows[0].Start, s.Plan.Flows[1].Start = 1000+r.Intn(3000), 10_000+r.Intn(3000)
		s.Plan.Flows[0].Len, s.Plan.Flows[1].Len = 6000, 5000
		for i := range s.Clocks {
			s.Clocks[i].One = [2]int{r.Intn(3), r.Intn(3)}
			s.Clocks[i].Start = r.Intn([]int{300, 30_000, 300_000}[n%3])
			s.Clocks[i].Turns = []osc.Turn{{Rate: rate.One + rate.Rate(r.Intn(1<<34))}, {At: 1 + r.Intn(100_000), Rate: rate.One - rate.Rate(r.Intn(1<<34))}}
		}
		holdJumps(t, s, 120_000, jumps, func(w *world.World) {
			if r.Intn(20_000) == 0 {
				do(t, w, world.Step{K: []int{world.Cut, world.Join}[r.Intn(2)], N: r.Intn(2)})
			}
		})
	}
	for _, what := range []string{"sent", "missed", "late", "back"} {
		if jumps[what] < 10 {
			t.Errorf("%q happened %d times", what, jumps[what])
		}
	}
}

// holdJumps lets a network go on, nanosecond by nanosecond, with steps between, and holds when its flows set out.
func holdJumps(t *testing.T, s world.Setup, until int, jumps map[string]int, step func(w *world.World)) {
	t.Helper()
	w := newWorld(t, s)
	off := w.Plan().Off
	var talkers []*talker
	for i, f := range s.Plan.Flows {
		c := s.Clocks[f.From]
		clock, _ := osc.New(stamp.Stamp(c.Start)*ns, 1, c.Turns)
		talkers = append(talkers, &talker{flow: i, clock: clock, last: -1})
	}
	for now := range until {
		if now > 0 {
			do(t, w, world.Step{K: world.Run, N: 1})
		}
		for _, x := range talkers {
			x.note(s, w, off, jumps)
		}
		step(w)
	}
	for i, x := range talkers {
		var at []int
		for _, y := range ofFlow(w, i) {
			at = append(at, y.At)
		}
		if text(at) != text(x.at) {
			t.Errorf("flow %d of %+v sets out at %v, not %v", i, s.Clocks, at, x.at)
		}
		for _, g := range gotOf(w, i) {
			if text(g.Data) != text(flowData(s.Plan.Flows[i].Size, x.says[g.Seq], i)) {
				t.Errorf("flow %d's frame %d says %v, not cycle %d", i, g.Seq, g.Data, x.says[g.Seq])
			}
		}
	}
}
