package world

import (
	"testing"

	"sandglass/api"
	"sandglass/bridge"
	"sandglass/ether"
	"sandglass/lanes"
	"sandglass/osc"
	"sandglass/plan"
	"sandglass/ptp"
	"sandglass/rate"
	"sandglass/stamp"
)

const ns = stamp.Unit

// P25.2: each port has rooms for 16 frames of each class, 32 of Time and Top; of the latter no script brings together so many.
func TestRooms(t *testing.T) {
	s := Setup{Plan: plan.Conf{Cycle: 1000}}
	d := s.door(plan.End{}, plan.Plan{})
	for class := range lanes.Classes {
		want := 16
		if class == bridge.Time || class == bridge.Top {
			want = 32
		}
		n := 0
		for d.gate.Put(class, lanes.Item{Size: 64}) == api.OK {
			n++
		}
		if n != want {
			t.Errorf("of class %d wait %d frames, not %d", class, n, want)
		}
	}
}

// hears lets a message come to a node, from clock 2.
func hears(t *testing.T, n *node, m ptp.Msg, here int) {
	t.Helper()
	m.Src = 2
	data, err := ptp.Encode(m)
	if err != api.OK {
		t.Fatalf("Encode(%+v) is %d", m, err)
	}
	bytes, _ := ether.Encode(ether.Frame{Dst: bridge.PtpMac(), Type: ether.TypePtp, Data: data})
	n.self.In(0, bytes, stamp.Stamp(here)*ns)
}

// ticksAt lets a node tick, and answers its question.
func ticksAt(t *testing.T, n *node, here int) {
	t.Helper()
	for _, x := range n.self.Tick(stamp.Stamp(here) * ns) {
		f, _ := ether.Decode(x.Bytes)
		m, _ := ptp.Decode(f.Data)
		if m.Kind != ptp.Req {
			continue
		}
		n.self.Sent(x.Mark, stamp.Stamp(here)*ns)
		answer := ptp.Msg{Kind: ptp.Resp, Seq: m.Seq, Time: stamp.Stamp(here) * ns, To: 1}
		hears(t, n, answer, here+100)
		answer.Kind, answer.Time = ptp.RespMore, stamp.Stamp(here+100)*ns
		hears(t, n, answer, here+200)
	}
}

// jumping is a node whose clock runs at a rate. It was told at 22000 that it is 100000 in domain 0, and at 40000 that it is another time in domain 1; each time holds for 35000.
func jumping(t *testing.T, r rate.Rate, second int) *node {
	t.Helper()
	p := ptp.Prior{One: 9, Id: 1}
	self, err := bridge.New(bridge.Conf{Id: 1, Ports: 1, Prior: [2]ptp.Prior{p, p}, Every: 10_000})
	if err != api.OK {
		t.Fatalf("New is %d", err)
	}
	clock, _ := osc.New(0, 1, []osc.Turn{{Rate: r}})
	n := &node{clock: clock, self: self}
	self.Link(0, true)
	ticksAt(t, n, 1000)
	ticksAt(t, n, 11_000)
	for d := range 2 {
		hears(t, n, ptp.Msg{Kind: ptp.Announce, Domain: d, Best: ptp.Prior{Id: 2}, Path: []int{2}}, 12_000)
	}
	ticksAt(t, n, 21_000)
	for d, here := range []int{22_000, 40_000} {
		hears(t, n, ptp.Msg{Kind: ptp.Sync, Domain: d}, here)
		hears(t, n, ptp.Msg{Kind: ptp.Follow, Domain: d, Time: stamp.Stamp([]int{100_000, second}[d]) * ns, Rate: rate.One}, here)
	}
	return n
}

// P25.3, P25.4: when a node takes the time to be one to come is found to the nanosecond, by clocks that are fast or slow, also as its time jumps ahead or goes back while nothing happens.
func TestWhen(t *testing.T) {
	for _, r := range []rate.Rate{rate.One, rate.One + rate.Most, rate.One - rate.Most, rate.One + 12345} {
		for _, second := range []int{140_000, 119_000, 117_990, 117_000, 50_000} {
			n := jumping(t, r, second)
			n.asked, n.tick = 45_000, 73_000
			var times []int
			for at := n.asked; at < n.tick; at++ {
				times = append(times, n.takes(at))
			}
			now := times[0]
			if back := n.takes(n.asked); back != now {
				t.Fatalf("to be asked has turned the time from %d to %d", now, back)
			}
			var asks []int
			for k := range times[1:] {
				if far := times[k+1] - times[k]; far < 0 || far > 2 {
					for d := range 200 {
						asks = append(asks, times[k]+100-d)
					}
				}
			}
			if len(asks) != 200 {
				t.Fatalf("with %d in domain 1 the time doesn't jump once", second)
			}
			for time := now + 1; time < now+60_000; time += 1 + time%97*3 {
				asks = append(asks, time)
			}
			for _, time := range asks {
				want, ok := 0, false
				for k, x := range times {
					if x >= time {
						want, ok = n.asked+k, true
						break
					}
				}
				if got, is := n.when(n.asked, time); got != want || is != ok {
					t.Errorf("at rate %d, with %d in domain 1, it is %d at %d, %v, not at %d, %v", r, second, time, got, is, want, ok)
				}
			}
			for _, tick := range []int{0, n.asked, n.asked + 1} {
				n.tick = tick
				if at, ok := n.when(n.asked, now+1); at != 0 || ok {
					t.Errorf("ahead of a tick at %d it is time at %d", tick, at)
				}
			}
		}
	}
}
