package world_test

import (
	"bytes"
	"math/rand"
	"strconv"
	"testing"

	"sandglass/api"
	"sandglass/bridge"
	"sandglass/ether"
	"sandglass/plan"
	"sandglass/world"
)

// bare is a frame as it is without what a bridge may take from it, or put to it.
func bare(f ether.Frame) string {
	f.Tagged, f.Vid, f.Prio, f.Drop = false, 0, 0, false
	return text(f)
}

// holdTaken holds that what was taken was sent, as it is, and no number twice.
func holdTaken(t *testing.T, s world.Setup, w *world.World) {
	t.Helper()
	type name struct{ flow, seq int }
	sent, taken := map[name]world.Sent{}, map[name]bool{}
	for _, x := range w.Sent() {
		sent[name{x.Flow, x.Seq}] = x
	}
	for _, g := range w.Got() {
		n := name{g.Flow, g.Seq}
		x, ok := sent[n]
		f := s.Plan.Flows[g.Flow]
		if !ok || x.At+8*f.Size > g.At || len(g.Data) != f.Size-30 || g.Data[8] != byte(g.Flow) {
			t.Errorf("%+v is taken, %v, %+v was sent", g, ok, x)
		}
		if taken[n] {
			t.Errorf("%+v is taken once more", g)
		}
		taken[n] = true
	}
}

// P25.7: whatever the script, no number is taken twice, what is taken was sent, and what comes as of no flow was said, or is a guest's.
func TestAnyScript(t *testing.T) {
	for seed := range 16 {
		t.Run(strconv.Itoa(seed), func(t *testing.T) {
			t.Parallel()
			r := rand.New(rand.NewSource(int64(200 + seed)))
			s := anySetup(t, r)
			s.Reset = maxTime
			w := newWorld(t, s)
			brought := map[string]bool{}
			for w.Now() < 1_000_000 {
				for _, x := range anySteps(t, r, s, w, seed%2 == 0) {
					switch x.K {
					case world.Run:
						x.N *= 4
					case world.Say:
						brought[bare(ether.Frame{Dst: x.To, Src: ether.Of(x.N + 1), Type: 0x801, Data: x.Bytes})] = true
					case world.Guest:
						if f, err := ether.Decode(x.Bytes); err == api.OK {
							brought[bare(f)] = true
						}
					}
					do(t, w, x)
				}
			}
			holdTaken(t, s, w)
			if len(w.Others()) == 0 {
				t.Error("nothing came")
			}
			for _, x := range w.Others() {
				if !brought[bare(x.Frame)] {
					t.Errorf("nobody brought %+v", x)
				}
			}
		})
	}
}

// P25.7: behind Reset of silence numbers are new: with a longer one a frame is taken once, with one that is as long as the other way takes longer, twice.
func TestReset(t *testing.T) {
	for _, c := range []struct{ reset, takes int }{{1, 2}, {19, 2}, {20, 2}, {21, 1}, {1000, 1}, {100_000, 1}, {maxTime, 1}} {
		s := two()
		s.Delays = [][2]int{{90, 90}, {110, 110}}
		s.Reset = c.reset
		w := newWorld(t, s)
		run(t, w, 5*s.Plan.Cycle)
		for flow := range 2 {
			got := gotOf(w, flow)
			if len(got) != 5*c.takes {
				t.Fatalf("with Reset %d of flow %d are taken %v", c.reset, flow, got)
			}
			for i, g := range got {
				if g.Seq != i/c.takes || text(g.Data) != text(flowData(s.Plan.Flows[flow].Size, g.Seq, flow)) {
					t.Errorf("with Reset %d at place %d is taken %+v", c.reset, i, g)
				}
			}
		}
	}
}

// P25.7: frames that were forged, or come once more, aren't taken: at a bridge's port to spare, and at a station's.
func TestForged(t *testing.T) {
	s := four()
	w := newWorld(t, s)
	for n := range 300 {
		for node := range 4 {
			for flow := range 2 {
				do(t, w, world.Step{K: world.Guest, N: node, I: 2, Bytes: flowing(t, flow, n%8, []byte("forged")...)})
			}
		}
		run(t, w, 1000)
	}
	if len(w.Sent()) != 6 || len(w.Got()) != 6 || len(w.Others()) != 600 {
		t.Errorf("%v set out, %v are taken, %d others", w.Sent(), w.Got(), len(w.Others()))
	}
	holdTaken(t, s, w)
	for _, node := range []int{1, 2} {
		holdCounts(t, w, node, bridge.Vlan, 600)
	}
	// A station has no end for what it sends itself: that comes as of no flow.
	for _, x := range w.Others() {
		if flow := x.Frame.Vid - 2; x.Node != s.Plan.Flows[flow].From || !bytes.Equal(x.Frame.Data, []byte("forged")) {
			t.Errorf("came %+v", x)
		}
	}
	holdLost(t, w, 0, 0, 0)
}

// P25.7: each frame that goes no further is counted just once: in a row of bridges, in which a frame goes out at each port but its own.
func TestEachCounted(t *testing.T) {
	r := rand.New(rand.NewSource(7))
	c := plan.Conf{Cycle: 1000, Every: never, Grain: 1, Proc: 100}
	const nodes = 5
	for i := range nodes {
		c.Nodes = append(c.Nodes, plan.Node{Ports: 3, Bridge: i > 0 && i < nodes-1})
		if i > 0 {
			c.Links = append(c.Links, join(plan.End{Node: i - 1, Port: 1}, plan.End{Node: i}))
		}
	}
	w := newWorld(t, clocks(c))
	run(t, w, 100_000)
	holdLost(t, w, 0, 0, 0)
	// Each copy of a frame comes to an end: it came to a station, a bridge counted it, or it was lost; or a bridge made one more of it, or two.
	guests, copies := 0, 0
	for range 4000 {
		i, x := r.Intn(nodes), anyBytes(t, r)
		f, err := ether.Decode(x)
		if err == api.OK && f.Dst == ptpMac {
			continue
		}
		guests++
		if err == api.OK && f.Vid <= 1 && i > 0 && i < nodes-1 {
			f.Dst, f.Src = all, ether.Of(90+i)
			x = encode(t, f)
			// Of one become two at each bridge; where the others are, one of the two has no link.
			copies += nodes - 2
		}
		do(t, w, world.Step{K: world.Guest, N: i, I: 2, Bytes: x})
		run(t, w, r.Intn(3000))
	}
	run(t, w, 1_000_000)
	ends := len(w.Others())
	for i := range nodes {
		for _, n := range w.Node(i).Counts() {
			ends += n
		}
	}
	lost := w.Lost()
	ends += lost[world.Gone]
	if lost[world.Full] > 0 || lost[world.Chance] > 0 || ends != guests+copies {
		t.Errorf("of %d frames and %d copies of them came %d to an end, lost are %v", guests, copies, ends, lost)
	}
	if copies < 500 || len(w.Others()) < 500 {
		t.Errorf("there were %d copies, and %d frames came", copies, len(w.Others()))
	}
}
