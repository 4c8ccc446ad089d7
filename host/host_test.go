package host_test

import (
	"bytes"
	"fmt"
	"math"
	"testing"

	"sandglass/api"
	"sandglass/bridge"
	"sandglass/ether"
	"sandglass/host"
	"sandglass/ptp"
	"sandglass/stamp"
)

const (
	most    = math.MaxInt
	least   = math.MinInt
	maxTime = 1 << 40
	ns      = stamp.Unit
	tick    = 1_000_000 * ns
)

// times are times of all kinds.
var times = []stamp.Stamp{0, 1, -1, 1000 * ns, -1000 * ns, 1 << 62, -1 << 62, most - 1, most, least, least + 1}

// strangers are numbers of ports, or ends, that no station of eight has.
var strangers = []int{-1, -2, 8, 9, 63, 64, -64, 1 << 32, 1<<32 + 1, most, least, least + 1}

// ptpMac is where messages go.
var ptpMac = api.Mac{1, 0x80, 0xc2, 0, 0, 0x0e}

// Where flows go, and where none does.
var (
	mac1  = api.Mac{1, 0, 0, 0, 1, 1}
	mac2  = api.Mac{1, 0, 0, 0, 1, 2}
	other = api.Mac{2, 7}
)

// conf is a station of Id 5.
func conf(ports int) bridge.Conf {
	p := ptp.Prior{One: 100, Id: 5}
	return bridge.Conf{Id: 5, Ports: ports, Prior: [2]ptp.Prior{p, p}, Every: 1_000_000}
}

// talks is an end that sends, on two ports.
func talks(vid int, mac api.Mac, a, b int) host.End {
	return host.End{Flow: bridge.Flow{Vid: vid, Mac: mac}, Ports: [2]int{a, b}, Talk: true}
}

// takes is an end that takes.
func takes(vid int, mac api.Mac, a, b int) host.End {
	e := talks(vid, mac, a, b)
	e.Talk = false
	return e
}

// newHost is one that must be there.
func newHost(t *testing.T, c bridge.Conf, reset int, ends ...host.End) *host.Host {
	t.Helper()
	h, err := host.New(c, ends, reset)
	if err != api.OK || h == nil || h.Node() == nil {
		t.Fatalf("New(%+v, %+v, %d) is %v, %d", c, ends, reset, h, err)
	}
	return h
}

// encode is a frame's bytes, which must be there.
func encode(t *testing.T, f ether.Frame) []byte {
	t.Helper()
	x, err := ether.Encode(f)
	if err != api.OK {
		t.Fatalf("Encode(%+v) is %d", f, err)
	}
	return x
}

// carry is a message's frame.
func carry(t *testing.T, m ptp.Msg) []byte {
	t.Helper()
	data, err := ptp.Encode(m)
	if err != api.OK {
		t.Fatalf("Encode(%+v) is %d", m, err)
	}
	return encode(t, ether.Frame{Dst: ptpMac, Src: ether.Of(m.Src), Type: 0x88f7, Data: data})
}

// flowing is a flow's frame with a number, as a bridge would let it come.
func flowing(vid int, mac api.Mac, seq int, data ...byte) ether.Frame {
	return ether.Frame{Dst: mac, Src: ether.Of(9), Tagged: true, Vid: vid, Prio: 7, Many: true, Seq: seq, Type: 0x800, Data: data}
}

// text is something as it can be compared: no list is an empty one.
func text(x any) string { return fmt.Sprintf("%+v", x) }

// taken is what a station is told of an end's frame that it takes.
func taken(end, seq int, data ...byte) host.Got { return host.Got{Flow: end, Seq: seq, Data: data} }

// asIs is what it is told of a frame of no end.
func asIs(f ether.Frame) host.Got { return host.Got{Flow: -1, Frame: f} }

// holdIn lets bytes come in of which nothing goes out, and holds what is taken of them.
func holdIn(t *testing.T, h *host.Host, port int, x []byte, here stamp.Stamp, want ...host.Got) {
	t.Helper()
	kept := bytes.Clone(x)
	outs, got := h.In(port, x, here)
	if len(outs) != 0 || text(got) != text(want) {
		t.Errorf("In(%d, %v, %d) is %+v, not %+v; out goes %+v", port, x, here, got, want, outs)
	}
	if !bytes.Equal(x, kept) {
		t.Error("In turned what was handed in")
	}
}

// holdCounts holds Again and Stray.
func holdCounts(t *testing.T, h *host.Host, again, stray int) {
	t.Helper()
	if h.Again() != again || h.Stray() != stray {
		t.Errorf("Again is %d, not %d; Stray is %d, not %d", h.Again(), again, h.Stray(), stray)
	}
}

// holdBad holds how many frames were Bad; a station counts nothing else as a node.
func holdBad(t *testing.T, h *host.Host, bad int) {
	t.Helper()
	if got := h.Node().Counts(); got != [bridge.Whys]int{bridge.Bad: bad} {
		t.Errorf("the node's counts are %d, not %d of them Bad", got, bad)
	}
}

// holdSend sends, and holds what goes out, at both ports, and the number.
func holdSend(t *testing.T, h *host.Host, i int, e host.End, seq int, data []byte) []bridge.Out {
	t.Helper()
	kept := bytes.Clone(data)
	f := flowing(e.Flow.Vid, e.Flow.Mac, seq, data...)
	f.Src = api.Mac{0, 0, 0, 0, 0, 5}
	x := encode(t, f)
	want := []bridge.Out{{Port: e.Ports[0], Class: 7, Bytes: x}, {Port: e.Ports[1], Class: 7, Bytes: x}}
	outs, got, err := h.Send(i, data)
	if got != seq || err != api.OK || text(outs) != text(want) {
		t.Errorf("Send(%d, %d bytes) is %+v, %d, %d, not %+v, %d", i, len(data), outs, got, err, want, seq)
	}
	if !bytes.Equal(data, kept) {
		t.Error("Send turned what was handed in")
	}
	return outs
}

// holdNoSend holds a Send against its error.
func holdNoSend(t *testing.T, h *host.Host, i int, data []byte, want api.Errno) {
	t.Helper()
	outs, seq, err := h.Send(i, data)
	if len(outs) != 0 || seq != 0 || err != want {
		t.Errorf("Send(%d, %d bytes) is %+v, %d, %d, not %d", i, len(data), outs, seq, err, want)
	}
}

// The chapter's example.
func TestExample(t *testing.T) {
	talk := talks(9, mac1, 0, 1)
	h := newHost(t, conf(2), maxTime, talk, takes(9, mac1, 0, 1))
	outs := holdSend(t, h, 0, talk, 0, []byte("data"))
	holdIn(t, h, 0, outs[0].Bytes, 0, taken(1, 0, []byte("data")...))
	holdIn(t, h, 1, outs[1].Bytes, 0)
	holdCounts(t, h, 1, 0)
}

// holdNothing holds a station that isn't there, or that New didn't make: it sends nothing, and nothing is taken, whatever it is called with.
func holdNothing(t *testing.T, h *host.Host) {
	t.Helper()
	for _, i := range append([]int{0, 1, 7}, strangers...) {
		for _, data := range [][]byte{nil, []byte("data"), make([]byte, 1501)} {
			holdNoSend(t, h, i, data, api.ErrNone)
		}
		for n, x := range [][]byte{nil, make([]byte, 64), encode(t, flowing(9, mac1, 0)), encode(t, ether.Frame{Type: 0x900}), carry(t, ptp.Msg{Kind: ptp.Req})} {
			holdIn(t, h, i, x, times[n])
		}
	}
	if h.Node() != nil {
		t.Error("it is a node")
	}
	holdCounts(t, h, 0, 0)
}

// P24.1: a nil Host sends nothing, which is ErrNone, and does nothing.
func TestNil(t *testing.T) {
	holdNothing(t, nil)
	holdNothing(t, &host.Host{})
}
