package host_test

import (
	"testing"

	"sandglass/api"
	"sandglass/bridge"
	"sandglass/ether"
	"sandglass/host"
	"sandglass/ptp"
)

// holdNew holds a New against its answer.
func holdNew(t *testing.T, c bridge.Conf, ends []host.End, reset int, want api.Errno) {
	t.Helper()
	h, err := host.New(c, ends, reset)
	if err != want || (h == nil) != (want != api.OK) {
		t.Errorf("New(%+v, %+v, %d) is %v, %d, not %d", c, ends, reset, h, err, want)
	}
}

// Ends that a station of 3 ports can't have.
var (
	noPort   = takes(9, mac1, 0, 3)
	oneTwice = takes(9, mac1, 1, 1)
	noVlan   = takes(1, mac1, 0, 1)
)

// P24.1: a Relay is no station.
func TestNewRelay(t *testing.T) {
	c := conf(3)
	holdNew(t, c, nil, 1, api.OK)
	c.Relay = true
	holdNew(t, c, nil, 1, api.ErrArg)
	holdNew(t, c, []host.End{talks(9, mac1, 0, 1)}, maxTime, api.ErrArg)
	holdNew(t, c, []host.End{noPort}, 1, api.ErrArg)
}

// P24.1: 64 ends and no more, be they the same or not.
func TestNewMany(t *testing.T) {
	for _, n := range []int{0, 1, 63, 64, 65, 66, 1000} {
		var ends []host.End
		for i := range n {
			ends = append(ends, host.End{Flow: bridge.Flow{Vid: 2 + i/2, Mac: mac1}, Ports: [2]int{i % 2, 2}, Talk: i%3 == 0})
		}
		want := api.OK
		if n > 64 {
			want = api.ErrArg
		}
		holdNew(t, conf(3), ends, 1, want)
		if n > 0 { // more than 64 is told ahead of what is wrong with one
			ends[n-1] = noPort
			holdNew(t, conf(3), ends, 1, map[bool]api.Errno{false: api.ErrPort, true: api.ErrArg}[n > 64])
		}
	}
}

// P24.1: reset is 1 to MaxTime; that is told ahead of what is wrong with an end.
func TestNewReset(t *testing.T) {
	for _, ends := range [][]host.End{nil, {talks(9, mac1, 0, 1)}, {takes(9, mac1, 0, 1)}} {
		for _, reset := range []int{1, 2, 1000, maxTime - 1, maxTime} {
			holdNew(t, conf(3), ends, reset, api.OK)
			holdNew(t, conf(3), append(ends, noPort), reset, api.ErrPort)
		}
		for _, reset := range []int{0, -1, maxTime + 1, 2 * maxTime, -maxTime, most, least} {
			holdNew(t, conf(3), ends, reset, api.ErrArg)
			holdNew(t, conf(3), append(ends, noPort), reset, api.ErrArg)
		}
	}
}

// P24.1: each of an end's ports is one of the node's, whichever other one; both aren't one.
func TestNewPorts(t *testing.T) {
	for ports := 1; ports <= 8; ports++ {
		for _, isTalk := range []bool{false, true} {
			hold := func(a, b int, want api.Errno) {
				t.Helper()
				e := host.End{Flow: bridge.Flow{Vid: 9, Mac: mac1}, Ports: [2]int{a, b}, Talk: isTalk}
				holdNew(t, conf(ports), []host.End{e}, 1, want)
			}
			for a := range 10 {
				for b := range 10 {
					switch {
					case a >= ports || b >= ports:
						hold(a, b, api.ErrPort)
					case a == b:
						hold(a, b, api.ErrArg)
					default:
						hold(a, b, api.OK)
					}
				}
			}
			for _, port := range strangers {
				hold(port, 0, api.ErrPort)
				hold(0, port, api.ErrPort)
				hold(port, port, api.ErrPort)
				hold(port, -port, api.ErrPort)
			}
		}
	}
}

// P24.1: its flow's Vid is 2 to MaxVid; nothing else is asked of its flow.
func TestNewVid(t *testing.T) {
	for _, isTalk := range []bool{false, true} {
		for _, vid := range []int{2, 3, 4093, 4094, 1, 0, -1, -2, 4095, 4096, 1<<32 + 2, most, least} {
			want := api.OK
			if vid < 2 || vid > 4094 {
				want = api.ErrArg
			}
			for _, f := range []bridge.Flow{{}, {Mac: ptpMac, In: -1, Outs: -1, Max: -1}, {In: most, Outs: most, Max: most}, {In: least, Outs: least, Max: least}} {
				f.Vid = vid
				e := host.End{Flow: f, Ports: [2]int{1, 0}, Talk: isTalk}
				holdNew(t, conf(3), []host.End{e}, 1, want)
				e.Ports[1] = 1
				holdNew(t, conf(3), []host.End{e}, 1, api.ErrArg)
			}
		}
	}
}

// P24.1: end by end the first error is told; of one end ErrPort ahead of ErrArg.
func TestNewFirst(t *testing.T) {
	right := talks(9, mac1, 2, 0)
	for _, c := range []struct {
		ends []host.End
		want api.Errno
	}{
		{[]host.End{noPort, oneTwice}, api.ErrPort},
		{[]host.End{oneTwice, noPort}, api.ErrArg},
		{[]host.End{noVlan, noPort}, api.ErrArg},
		{[]host.End{noPort, noVlan}, api.ErrPort},
		{[]host.End{right, right, noVlan, right, noPort}, api.ErrArg},
		{[]host.End{right, right, noPort, right, noVlan}, api.ErrPort},
		{[]host.End{takes(1, mac1, 0, 3)}, api.ErrPort},
		{[]host.End{takes(4095, mac1, -1, 0)}, api.ErrPort},
		{[]host.End{talks(0, mac1, 3, 3)}, api.ErrPort},
		{[]host.End{takes(9, mac1, 3, 3)}, api.ErrPort},
		{[]host.End{talks(1, mac1, 2, 2)}, api.ErrArg},
		{[]host.End{right, takes(9, mac1, 0, 2), right}, api.OK},
	} {
		holdNew(t, conf(3), c.ends, 1, c.want)
	}
}

// P24.1: a node that layer 23 refuses is its error, behind those of the ends.
func TestNewNode(t *testing.T) {
	right := talks(9, mac1, 2, 0)
	for _, set := range []func(c *bridge.Conf){
		func(c *bridge.Conf) { c.Id = 0 },
		func(c *bridge.Conf) { c.Id = 6 },
		func(c *bridge.Conf) { c.Id = 1 << 48 },
		func(c *bridge.Conf) { c.Ports = 9 },
		func(c *bridge.Conf) { c.Ports = most },
		func(c *bridge.Conf) { c.Every = 999 },
		func(c *bridge.Conf) { c.Every = 1<<30 + 1 },
		func(c *bridge.Conf) { c.Prior[1].One = 256 },
		func(c *bridge.Conf) { c.Flows = make([]bridge.Flow, 65) },
		func(c *bridge.Conf) { c.Flows = []bridge.Flow{{Vid: 1}} },
		func(c *bridge.Conf) { c.Flows = []bridge.Flow{{Vid: 9, In: 3}} },
	} {
		c := conf(3)
		set(&c)
		holdNew(t, c, nil, 1, api.ErrArg)
		holdNew(t, c, []host.End{right}, 1, api.ErrArg)
		holdNew(t, c, []host.End{right, takes(9, mac1, 1, -1)}, 1, api.ErrPort)
		holdNew(t, c, []host.End{right, noVlan}, 1, api.ErrArg)
	}
	holdNew(t, bridge.Conf{}, nil, 1, api.ErrArg)
	for _, ports := range []int{0, -1, least, least + 1} { // none at all
		holdNew(t, conf(ports), nil, 1, api.ErrArg)
		holdNew(t, conf(ports), []host.End{right}, 1, api.ErrPort)
		holdNew(t, conf(ports), []host.End{talks(9, mac1, 0, 0)}, 1, api.ErrPort)
		holdNew(t, conf(ports), []host.End{talks(9, mac1, -2, -1)}, 1, api.ErrPort)
	}
	c := conf(3)
	c.Flows = []bridge.Flow{{Vid: 9, Mac: mac1, In: 1, Outs: 5, Max: 100}}
	holdNew(t, c, []host.End{right, takes(9, mac1, 0, 1)}, 1, api.OK)
}

// P24.1: what a station is made of is neither changed nor kept.
func TestNewKeepsNothing(t *testing.T) {
	ends := make([]host.End, 2, 5)
	talk, take := talks(9, mac1, 0, 1), takes(9, mac1, 1, 2)
	ends[0], ends[1] = talk, take
	h := newHost(t, conf(3), 1, ends...)
	if ends[0] != talk || ends[1] != take || ends[:3][2] != (host.End{}) {
		t.Errorf("New turned its ends: %+v", ends[:3])
	}
	ends[0], ends[1] = takes(7, mac2, 2, 0), talks(7, mac2, 2, 0)
	holdSend(t, h, 0, talk, 0, nil)
	holdNoSend(t, h, 1, nil, api.ErrNone)
	holdIn(t, h, 1, encode(t, flowing(9, mac1, 3)), 0, taken(1, 3))
	holdIn(t, h, 0, encode(t, flowing(7, mac2, 3)), 0, asIs(flowing(7, mac2, 3)))
}

// P24.1: stations never meet, though they are made of the same.
func TestTwoHosts(t *testing.T) {
	ends := []host.End{talks(9, mac1, 0, 1), takes(9, mac1, 0, 1)}
	a, b := newHost(t, conf(2), 1000, ends...), newHost(t, conf(2), 1000, ends...)
	for seq := range 3 {
		holdSend(t, a, 0, ends[0], seq, nil)
	}
	holdSend(t, b, 0, ends[0], 0, nil)
	x := encode(t, flowing(9, mac1, 3))
	holdIn(t, a, 0, x, 0, taken(1, 3))
	holdIn(t, a, 0, x, 0)
	holdIn(t, b, 0, x, 0, taken(1, 3))
	holdIn(t, a, 0, nil, 0)
	holdCounts(t, a, 1, 0)
	holdCounts(t, b, 0, 0)
	holdBad(t, a, 1)
	holdBad(t, b, 0)
}

// P24.1: as a node it is layer 23's: that which hears and tells, and stays the same one.
func TestNode(t *testing.T) {
	h := newHost(t, conf(3), 1000, takes(9, mac1, 0, 1))
	same, err := bridge.New(conf(3))
	if err != api.OK {
		t.Fatalf("bridge.New is %d", err)
	}
	if got := h.Node().Tick(0); len(got) != 0 {
		t.Errorf("without a link goes out %+v", got)
	}
	same.Tick(0)
	for _, port := range []int{0, 2} {
		h.Node().Link(port, true)
		same.Link(port, true)
	}
	for n := range 3 {
		here := tick + 1000*ns*10
		got, want := h.Node().Tick(here), same.Tick(here)
		if len(got) == 0 || text(got) != text(want) {
			t.Errorf("a tick tells %+v, not %+v", got, want)
		}
		for _, x := range got {
			if text(h.Node().Sent(x.Mark, here)) != text(same.Sent(x.Mark, here)) {
				t.Errorf("behind %+v goes out something else", x)
			}
		}
		x := carry(t, ptp.Msg{Kind: ptp.Req, Seq: n, Src: 9, Port: 3})
		outs, gots := h.In(2, x, here)
		wants, _ := same.In(2, x, here)
		if len(outs) != 1 || text(outs) != text(wants) || len(gots) != 0 {
			t.Errorf("to a question goes out %+v, not %+v; taken is %+v", outs, wants, gots)
		}
	}
	if node := h.Node(); node != h.Node() {
		t.Error("it is another node each time")
	}
	// What comes to the node itself, the station doesn't take.
	f := ether.Frame{Dst: mac1, Tagged: true, Vid: 9, Many: true, Seq: 4, Type: 0x800}
	if _, own := h.Node().In(0, encode(t, f), 0); len(own) != 1 {
		t.Errorf("the node's own are %+v", own)
	}
	holdIn(t, h, 0, encode(t, f), 0, taken(0, 4))
}
