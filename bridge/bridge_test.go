package bridge_test

import (
	"bytes"
	"fmt"
	"math"
	"slices"
	"testing"

	"sandglass/api"
	"sandglass/bridge"
	"sandglass/ether"
	"sandglass/ptp"
	"sandglass/rate"
	"sandglass/stamp"
)

const (
	most  = math.MaxInt
	least = math.MinInt
	one   = rate.One
	ns    = stamp.Unit
	every = 1_000_000
	tick  = every * ns
)

// What a port is to do.
const (
	off     = 0
	master  = 1
	slave   = 2
	passive = 3
)

// times are times of all kinds.
var times = []stamp.Stamp{0, 1, -1, 1000 * ns, -1000 * ns, 1 << 62, -1 << 62, most - 1, most, least, least + 1}

// strangers are numbers of ports that no node has.
var strangers = []int{-1, -2, 8, 9, 63, 64, -64, 1 << 32, 1<<32 + 1, most, least, least + 1}

// ptpMac is where messages go, by the chapter's words.
var ptpMac = api.Mac{1, 0x80, 0xc2, 0, 0, 0x0e}

// prior is a clock that is the better the less first is.
func prior(first, id int) ptp.Prior { return ptp.Prior{One: first, Class: 6, Id: id} }

// conf is a bridge that isn't the best clock.
func conf(id, ports int, flows ...bridge.Flow) bridge.Conf {
	p := prior(100, id)
	return bridge.Conf{Id: id, Ports: ports, Relay: true, Prior: [2]ptp.Prior{p, p}, Every: every, Flows: flows}
}

// newNode is one that must be there.
func newNode(t *testing.T, c bridge.Conf) *bridge.Bridge {
	t.Helper()
	b, err := bridge.New(c)
	if err != api.OK || b == nil {
		t.Fatalf("New(%+v) is %v, %d", c, b, err)
	}
	return b
}

// linked is a bridge of Id 5 whose ports have links, but those of a set.
func linked(t *testing.T, ports, gone int) *bridge.Bridge {
	t.Helper()
	b := newNode(t, conf(5, ports))
	for port := range ports {
		b.Link(port, gone&(1<<port) == 0)
	}
	return b
}

// encode is a frame's bytes, which must be there.
func encode(t *testing.T, f ether.Frame) []byte {
	t.Helper()
	x, err := ether.Encode(f)
	if err != api.OK {
		t.Fatalf("Encode(%+v) is %d", f, err)
	}
	return x
}

// carry is a message's frame, as the chapter says that it goes out.
func carry(t *testing.T, m ptp.Msg) []byte {
	t.Helper()
	data, err := ptp.Encode(m)
	if err != api.OK {
		t.Fatalf("Encode(%+v) is %d", m, err)
	}
	return encode(t, ether.Frame{Dst: ptpMac, Src: ether.Of(m.Src), Type: 0x88f7, Data: data})
}

// told is a message that goes out.
type told struct {
	port   int
	marked bool
	m      ptp.Msg
}

// text is something as it can be compared: no path is an empty one.
func text(x any) string { return fmt.Sprintf("%+v", x) }

// read is which message an Out is: it must go out as all messages do.
func read(t *testing.T, x bridge.Out) told {
	t.Helper()
	f, err := ether.Decode(x.Bytes)
	if err != api.OK {
		t.Fatalf("%+v is no frame: %d", x, err)
	}
	m, err := ptp.Decode(f.Data)
	if err != api.OK {
		t.Fatalf("%+v is no message: %d", x, err)
	}
	if !bytes.Equal(x.Bytes, carry(t, m)) || x.Class != 6 || x.Drop {
		t.Errorf("not as messages go out: %+v, %+v", x, f)
	}
	return told{x.Port, x.Mark != 0, m}
}

// holdTold holds what goes out against messages.
func holdTold(t *testing.T, outs []bridge.Out, want ...told) {
	t.Helper()
	var got []told
	for _, x := range outs {
		got = append(got, read(t, x))
	}
	if text(got) != text(want) {
		t.Errorf("what goes out is\n%+v, not\n%+v", got, want)
	}
}

// hear lets a message come in: what goes out.
func hear(t *testing.T, b *bridge.Bridge, port int, m ptp.Msg, here stamp.Stamp) []bridge.Out {
	t.Helper()
	outs, own := b.In(port, carry(t, m), here)
	if len(own) != 0 {
		t.Errorf("a message is the node's own: %+v", own)
	}
	return outs
}

// heard lets a message come in to which nothing is said.
func heard(t *testing.T, b *bridge.Bridge, port int, m ptp.Msg, here stamp.Stamp) {
	t.Helper()
	if outs := hear(t, b, port, m, here); len(outs) != 0 {
		t.Errorf("to %+v goes out %+v", m, outs)
	}
}

// announce tells of a best clock, by clock 9.
func announce(d int, best ptp.Prior, steps int, path ...int) ptp.Msg {
	return ptp.Msg{Kind: ptp.Announce, Domain: d, Seq: 7, Src: 9, Port: 2, Best: best, Steps: steps, Path: append(path, 9)}
}

// mark is a Sync of clock 9.
func mark(d, seq int) ptp.Msg { return ptp.Msg{Kind: ptp.Sync, Domain: d, Seq: seq, Src: 9, Port: 2} }

// follow is what tells of it.
func follow(d, seq int, time stamp.Stamp) ptp.Msg {
	return ptp.Msg{Kind: ptp.Follow, Domain: d, Seq: seq, Src: 9, Port: 2, Time: time, Rate: one}
}

// answer lets a question that goes out now, if there is one at the port, be answered by clock 9, whose time is this one, over a link that takes delay.
func answer(t *testing.T, b *bridge.Bridge, outs []bridge.Out, port int, here, there, delay stamp.Stamp) {
	t.Helper()
	for _, x := range outs {
		asked := read(t, x)
		if asked.port != port || asked.m.Kind != ptp.Req {
			continue
		}
		if more := b.Sent(x.Mark, here); len(more) != 0 {
			t.Errorf("behind a question goes out %+v", more)
		}
		half := ptp.Msg{Kind: ptp.Resp, Seq: asked.m.Seq, Src: 9, Port: 2, Time: there + delay, To: asked.m.Src, ToPort: port}
		heard(t, b, port, half, here+2*delay+1000*ns)
		half.Kind, half.Time = ptp.RespMore, there+delay+1000*ns
		heard(t, b, port, half, here+2*delay+5000*ns)
	}
}

// measure lets two ticks go by, from a time on, and the questions at some ports be answered, so that their links are measured.
func measure(t *testing.T, b *bridge.Bridge, at, delay stamp.Stamp, ports ...int) {
	t.Helper()
	for range 2 {
		outs := b.Tick(at)
		for _, port := range ports {
			answer(t, b, outs, port, at, at, delay)
		}
		at += tick
	}
	for _, port := range ports {
		holdAble(t, b, port, delay, true)
	}
}

func holdAble(t *testing.T, b *bridge.Bridge, port int, delay stamp.Stamp, able bool) {
	t.Helper()
	if got, ok := b.Able(port); got != delay || ok != able {
		t.Errorf("Able(%d) is %d, %v, not %d, %v", port, got, ok, delay, able)
	}
}

func holdAt(t *testing.T, b *bridge.Bridge, here, want stamp.Stamp) {
	t.Helper()
	if got, ok := b.At(here); got != want || !ok {
		t.Errorf("At(%d) is %d, %v, not %d", here, got, ok, want)
	}
}

func holdNoAt(t *testing.T, b *bridge.Bridge, here stamp.Stamp) {
	t.Helper()
	if got, ok := b.At(here); got != 0 || ok {
		t.Errorf("At(%d) is %d, %v", here, got, ok)
	}
}

func holdRoles(t *testing.T, b *bridge.Bridge, d int, here stamp.Stamp, best ptp.Prior, roles ...int) {
	t.Helper()
	got, does := b.Roles(d, here)
	if got != best || !slices.Equal(does, roles) {
		t.Errorf("Roles(%d, %d) is %+v, %d, not %+v, %d", d, here, got, does, best, roles)
	}
}

// counts is how often why, of those that are not 0.
type counts map[int]int

func holdCounts(t *testing.T, b *bridge.Bridge, want counts) {
	t.Helper()
	var all [bridge.Whys]int
	for why, n := range want {
		all[why] = n
	}
	if got := b.Counts(); got != all {
		t.Errorf("Counts is %d, not %d", got, all)
	}
}

func holdPlaces(t *testing.T, b *bridge.Bridge, want int) {
	t.Helper()
	if got := b.Places(); got != want {
		t.Errorf("Places is %d, not %d", got, want)
	}
}

// The chapter's constants.
func TestConstants(t *testing.T) {
	if bridge.Top != 7 || bridge.Time != 6 || bridge.Rest != 5 {
		t.Error("a class is another one")
	}
	whys := []int{bridge.Bad, bridge.Vlan, bridge.Forged, bridge.Long, bridge.Closed, bridge.Fast, bridge.Blocked, bridge.Nowhere, bridge.Whys}
	for i, why := range whys {
		if why != i {
			t.Errorf("why a frame goes no further: %d is %d", i, why)
		}
	}
	for range 2 {
		if got := bridge.PtpMac(); got != ptpMac {
			t.Errorf("PtpMac is %v", got)
		}
	}
}

// P23.3: the chapter's example.
func TestExample(t *testing.T) {
	b := newNode(t, conf(5, 3))
	b.Link(0, true)
	own := prior(100, 5)
	tells := func(d int) ptp.Msg {
		return ptp.Msg{Kind: ptp.Announce, Domain: d, Seq: 1, Src: 5, Best: own, Path: []int{5}}
	}
	marks := func(d int) ptp.Msg { return ptp.Msg{Kind: ptp.Sync, Domain: d, Seq: 1, Src: 5} }
	ask := ptp.Msg{Kind: ptp.Req, Seq: 1, Src: 5}
	holdTold(t, b.Tick(0), told{0, false, tells(0)}, told{0, true, marks(0)}, told{0, false, tells(1)}, told{0, true, marks(1)}, told{0, true, ask})
}

// holdNothing holds a node that isn't there, or has no ports, against that it does nothing, whatever it is called with.
func holdNothing(t *testing.T, b *bridge.Bridge) {
	t.Helper()
	x := encode(t, ether.Frame{Dst: api.Mac{2}, Type: 0x900})
	for _, port := range append([]int{0, 1, 7}, strangers...) {
		b.Link(port, true)
		for _, bytes := range [][]byte{x, nil, x[:63], carry(t, ptp.Msg{Kind: ptp.Req})} {
			if outs, own := b.In(port, bytes, 0); len(outs) != 0 || len(own) != 0 {
				t.Errorf("In(%d, ..) is %+v, %+v", port, outs, own)
			}
		}
		if outs := b.Sent(port, 0); len(outs) != 0 {
			t.Errorf("Sent(%d, ..) is %+v", port, outs)
		}
		holdAble(t, b, port, 0, false)
		holdRoles(t, b, port, 0, ptp.Prior{})
		b.Link(port, false)
	}
	for _, here := range times {
		if outs := b.Tick(here); len(outs) != 0 {
			t.Errorf("Tick(%d) is %+v", here, outs)
		}
		holdNoAt(t, b, here)
		holdRoles(t, b, 0, here, ptp.Prior{})
		holdRoles(t, b, 1, here, ptp.Prior{})
	}
	holdCounts(t, b, nil)
	holdPlaces(t, b, 0)
}

// P23.1: a nil node does nothing; no more does one that New didn't make.
func TestNil(t *testing.T) {
	holdNothing(t, nil)
	holdNothing(t, &bridge.Bridge{})
}

// P23.5: a flow's frame: to its Mac and Vid, of priority Top, one of Many, with the number modulo 65536.
func TestNumbered(t *testing.T) {
	f := bridge.Flow{Vid: 9, Mac: api.Mac{1, 2, 3, 4, 5, 6}, In: 3, Outs: 4, Max: 64}
	src := api.Mac{2, 9, 8, 7, 6, 5}
	for _, c := range []struct{ seq, want int }{
		{0, 0}, {1, 1}, {65535, 65535}, {65536, 0}, {65537, 1}, {70000, 4464}, {-1, 65535}, {-65535, 1}, {-65536, 0}, {-65537, 65535},
		{1<<32 + 7, 7}, {most, 65535}, {least, 0}, {least + 1, 1},
	} {
		for _, data := range [][]byte{nil, {}, {1}, []byte("data"), bytes.Repeat([]byte{7}, 1500), make([]byte, 1570)} {
			want := encode(t, ether.Frame{Dst: f.Mac, Src: src, Tagged: true, Vid: 9, Prio: 7, Many: true, Seq: c.want, Type: 0x800, Data: data})
			kept := bytes.Clone(data)
			got, err := bridge.Numbered(f, src, c.seq, data)
			if err != api.OK || !bytes.Equal(got, want) {
				t.Errorf("Numbered(.., %d, ..) is %v, %d", c.seq, got, err)
			}
			clear(got)
			if !bytes.Equal(data, kept) {
				t.Error("Numbered turned what was handed in")
			}
		}
	}
}

// P23.5: a frame that layer 5 refuses is its error, and none; what a node would refuse of a flow is no part of a frame.
func TestNumberedWrong(t *testing.T) {
	for _, c := range []struct {
		vid, bytes int
		want       api.Errno
	}{
		{9, 1570, api.OK}, {9, 1571, api.ErrLong}, {9, 1 << 16, api.ErrLong},
		{4094, 0, api.OK}, {4095, 0, api.ErrArg}, {-1, 0, api.ErrArg}, {1 << 12, 0, api.ErrArg}, {most, 0, api.ErrArg}, {least, 0, api.ErrArg},
		{4095, 1571, api.ErrArg}, {0, 0, api.OK}, {1, 0, api.OK},
	} {
		f := bridge.Flow{Vid: c.vid, In: -3, Outs: -1, Max: -1}
		got, err := bridge.Numbered(f, api.Mac{}, 5, make([]byte, c.bytes))
		if err != c.want || (len(got) == 0) != (c.want != api.OK) {
			t.Errorf("Numbered with Vid %d and %d bytes is %d bytes, %d", c.vid, c.bytes, len(got), err)
		}
	}
}
