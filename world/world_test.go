package world_test

import (
	"fmt"
	"math"
	"reflect"
	"testing"

	"sandglass/api"
	"sandglass/bridge"
	"sandglass/ether"
	"sandglass/osc"
	"sandglass/plan"
	"sandglass/ptp"
	"sandglass/rate"
	"sandglass/stamp"
	"sandglass/world"
)

const (
	most    = math.MaxInt
	least   = math.MinInt
	maxTime = 1 << 40
	ns      = stamp.Unit
	never   = 1 << 30 // Every of nodes that tick but once
)

// How long a frame of 64 bytes takes to go out.
const small = 512

// strangers are numbers of nodes, ports or links that no network here has.
var strangers = []int{-1, -2, 16, 64, 1 << 32, 1<<32 + 1, most, least, least + 1}

// ptpMac is where messages go.
var ptpMac = api.Mac{1, 0x80, 0xc2, 0, 0, 0x0e}

// Where frames of no flow go: everywhere, and to a place.
var (
	all   = api.Mac{255, 255, 255, 255, 255, 255}
	place = api.Mac{2, 0, 0, 0, 0, 9}
)

// text is something as it can be compared: no list is an empty one.
func text(x any) string { return fmt.Sprintf("%+v", x) }

// even is a clock that tells true time.
func even() world.Clock { return world.Clock{Turns: []osc.Turn{{Rate: rate.One}}} }

// clocks lets all clocks of a setup tell true time, and its links take as long as they may at least.
func clocks(c plan.Conf) world.Setup {
	s := world.Setup{Plan: c, Reset: maxTime}
	for range c.Nodes {
		s.Clocks = append(s.Clocks, even())
	}
	for _, l := range c.Links {
		s.Delays = append(s.Delays, [2]int{l.Low, l.Low})
	}
	return s
}

// join is a link between two ports, that takes 90 to 110 ns.
func join(a, b plan.End) plan.Link { return plan.Link{Ends: [2]plan.End{a, b}, Low: 90, High: 110} }

// two is two stations with three ports each, of which two are joined; each sends a flow of frames of 100 bytes to the other one. They tick but once.
func two() world.Setup {
	return clocks(plan.Conf{
		Nodes: []plan.Node{{Ports: 3}, {Ports: 3}},
		Links: []plan.Link{join(plan.End{}, plan.End{Node: 1}), join(plan.End{Port: 1}, plan.End{Node: 1, Port: 1})},
		Flows: []plan.Flow{
			{From: 0, To: 1, Ways: [2][]int{{0}, {1}}, Start: 20_000, Len: 1000, Size: 100, Late: 1 << 20},
			{From: 1, To: 0, Ways: [2][]int{{1}, {0}}, Start: 60_000, Len: 500, Size: 64, Late: 1 << 20},
		},
		Cycle: 100_000, Every: never, Grain: 1,
	})
}

// four is stations 0 and 3, and bridges 1 and 2 between them, each with a port to spare; a flow of frames of 100 bytes goes from 0 to 3, one of 64 bytes from 3 to 0. A bridge needs 1000 ns. They tick but once.
func four() world.Setup {
	return clocks(plan.Conf{
		Nodes: []plan.Node{{Ports: 3}, {Ports: 3, Bridge: true}, {Ports: 3, Bridge: true}, {Ports: 3}},
		Links: []plan.Link{
			join(plan.End{}, plan.End{Node: 1}), join(plan.End{Node: 1, Port: 1}, plan.End{Node: 3}),
			join(plan.End{Port: 1}, plan.End{Node: 2}), join(plan.End{Node: 2, Port: 1}, plan.End{Node: 3, Port: 1}),
		},
		Flows: []plan.Flow{
			{From: 0, To: 3, Ways: [2][]int{{0, 1}, {2, 3}}, Start: 20_000, Len: 1000, Size: 100, Late: 1 << 20},
			{From: 3, To: 0, Ways: [2][]int{{1, 0}, {3, 2}}, Start: 60_000, Len: 500, Size: 64, Late: 1 << 20},
		},
		Cycle: 100_000, Every: never, Grain: 1, Proc: 1000,
	})
}

// named is a network that has a name, with one port more at each node that has fewer than eight, and flows that set out 60000 ns behind each other.
func named(t *testing.T, kind, n int) world.Setup {
	t.Helper()
	c, err := plan.Named(kind, n)
	if err != api.OK {
		t.Fatalf("Named(%d, %d) is %d", kind, n, err)
	}
	c.Every, c.Cycle = 100_000, 500_000
	for i := range c.Flows {
		c.Flows[i].Start = 20_000 + 60_000*i
	}
	for i := range c.Nodes {
		c.Nodes[i].Ports = min(api.MaxPorts, c.Nodes[i].Ports+1)
	}
	return clocks(c)
}

// newWorld is one that must be there.
func newWorld(t *testing.T, s world.Setup) *world.World {
	t.Helper()
	w, err := world.New(s)
	if err != api.OK || w == nil {
		t.Fatalf("New(%+v) is %v, %d", s, w, err)
	}
	return w
}

// do lets steps happen that must be taken.
func do(t *testing.T, w *world.World, steps ...world.Step) {
	t.Helper()
	for _, s := range steps {
		if err := w.Do(s); err != api.OK {
			t.Fatalf("Do(%+v) is %d", s, err)
		}
	}
}

// run lets time go by.
func run(t *testing.T, w *world.World, n int) {
	t.Helper()
	for ; n > 1<<30; n -= 1 << 30 {
		do(t, w, world.Step{K: world.Run, N: 1 << 30})
	}
	do(t, w, world.Step{K: world.Run, N: n})
}

// to lets time go by up to a true time.
func to(t *testing.T, w *world.World, at int) {
	t.Helper()
	run(t, w, at-w.Now())
}

// holdDo holds a step against its error.
func holdDo(t *testing.T, w *world.World, s world.Step, want api.Errno) {
	t.Helper()
	if err := w.Do(s); err != want {
		t.Errorf("Do(%+v) is %d, not %d", s, err, want)
	}
}

// holdLost holds how many frames were lost, and why.
func holdLost(t *testing.T, w *world.World, full, gone, chance int) {
	t.Helper()
	if got := w.Lost(); got != [3]int{world.Full: full, world.Gone: gone, world.Chance: chance} {
		t.Errorf("at %d lost are %d, not %d, %d, %d", w.Now(), got, full, gone, chance)
	}
}

// holdCounts holds how often a node dropped a frame for one reason, and for no other one.
func holdCounts(t *testing.T, w *world.World, i, why, n int) {
	t.Helper()
	want := [bridge.Whys]int{}
	want[why] = n
	if got := w.Node(i).Counts(); got != want {
		t.Errorf("node %d counts %d, not %d", i, got, want)
	}
}

// holdOthers holds which frames of no flow came.
func holdOthers(t *testing.T, w *world.World, want ...world.Other) {
	t.Helper()
	if got := w.Others(); text(got) != text(want) {
		t.Errorf("at %d came %+v, not %+v", w.Now(), got, want)
	}
}

// said is a frame that a station was let send, as it comes to a node.
func said(node, from int, to api.Mac, data ...byte) world.Other {
	return world.Other{Node: node, Frame: ether.Frame{Dst: to, Src: ether.Of(from + 1), Type: 0x801, Data: data}}
}

// encode is a frame's bytes, which must be there.
func encode(t *testing.T, f ether.Frame) []byte {
	t.Helper()
	x, err := ether.Encode(f)
	if err != api.OK {
		t.Fatalf("Encode(%+v) is %d", f, err)
	}
	return x
}

// carry is a message's frame.
func carry(t *testing.T, m ptp.Msg) []byte {
	t.Helper()
	data, err := ptp.Encode(m)
	if err != api.OK {
		t.Fatalf("Encode(%+v) is %d", m, err)
	}
	return encode(t, ether.Frame{Dst: ptpMac, Src: ether.Of(99), Type: ether.TypePtp, Data: data})
}

// flowing is a flow's frame, as it could be forged.
func flowing(t *testing.T, flow, seq int, data ...byte) []byte {
	t.Helper()
	x, err := bridge.Numbered(bridge.Flow{Vid: 2 + flow, Mac: world.FlowMac(flow)}, ether.Of(1), seq, data)
	if err != api.OK {
		t.Fatalf("Numbered is %d", err)
	}
	return x
}

// ofFlow is which frames of a flow set out.
func ofFlow(w *world.World, flow int) []world.Sent {
	var list []world.Sent
	for _, x := range w.Sent() {
		if x.Flow == flow {
			list = append(list, x)
		}
	}
	return list
}

// gotOf is which frames of a flow were taken.
func gotOf(w *world.World, flow int) []world.Got {
	var list []world.Got
	for _, x := range w.Got() {
		if x.Flow == flow {
			list = append(list, x)
		}
	}
	return list
}

// The chapter's example. It says that by then two of the first flow's frames were taken; that each was taken once, and in its window, holds for all that set out, the one of the cycle that begins at 0 among them.
func TestExample(t *testing.T) {
	c, _ := plan.Named(2, 2)
	c.Every, c.Cycle = 100_000, 500_000
	for i := range c.Flows {
		c.Flows[i].Start = 20_000 + 55_000*i
	}
	w := newWorld(t, clocks(c))
	run(t, w, 3*c.Cycle)
	got, sent := gotOf(w, 0), ofFlow(w, 0)
	if len(got) < 2 || len(got) != len(sent) {
		t.Fatalf("of %+v are taken %+v", sent, got)
	}
	for i, g := range got {
		if took := g.At - sent[i].At; g.Seq != i || took < 4380 || took > 4400 {
			t.Errorf("%+v is taken as %+v", sent[i], g)
		}
	}
}

// P25.1: where a flow's frames go; and how long it takes until times are held together, also of numbers that no plan has.
func TestFlowMacSettled(t *testing.T) {
	for _, c := range []struct {
		i    int
		want api.Mac
	}{
		{0, api.Mac{1, 0, 0, 0, 1, 0}},
		{1, api.Mac{1, 0, 0, 0, 1, 1}},
		{15, api.Mac{1, 0, 0, 0, 1, 15}},
		{255, api.Mac{1, 0, 0, 0, 1, 255}},
	} {
		if got := world.FlowMac(c.i); got != c.want {
			t.Errorf("FlowMac(%d) is %v, not %v", c.i, got, c.want)
		}
	}
	for _, i := range strangers {
		if m := world.FlowMac(i); [5]byte(m[:5]) != [5]byte{1, 0, 0, 0, 1} {
			t.Errorf("FlowMac(%d) is %v", i, m)
		}
	}
	for _, c := range []struct{ nodes, every, want int }{
		{2, 1000, 52_000}, {4, 100_000, 6_400_000}, {16, 1 << 30, 136 << 30}, {0, 7, 280}, {3, 0, 0}, {3, -1, -58},
	} {
		if got := world.Settled(plan.Conf{Nodes: make([]plan.Node, c.nodes), Every: c.every}); got != c.want {
			t.Errorf("Settled of %d nodes with Every %d is %d, not %d", c.nodes, c.every, got, c.want)
		}
	}
	world.Settled(plan.Conf{Every: most})
}

// holdNothing holds a World that isn't there, or that New didn't make.
func holdNothing(t *testing.T, w *world.World) {
	t.Helper()
	for k := range 10 {
		for _, n := range []int{0, 1} {
			holdDo(t, w, world.Step{K: k - 1, N: n, To: place}, api.ErrArg)
		}
	}
	if w.Now() != 0 || len(w.Sent()) != 0 || len(w.Got()) != 0 || len(w.Others()) != 0 || w.Lost() != [3]int{} {
		t.Errorf("it has %d, %v, %v, %v, %v", w.Now(), w.Sent(), w.Got(), w.Others(), w.Lost())
	}
	if p := w.Plan(); p.Off != 0 || len(p.Windows) != 0 || len(p.Gates) != 0 {
		t.Errorf("it has a plan: %+v", p)
	}
	for _, i := range append([]int{0, 1, 7}, strangers...) {
		holdNoNode(t, w, i)
	}
}

// holdNoNode holds a node that isn't there, or is dead.
func holdNoNode(t *testing.T, w *world.World, i int) {
	t.Helper()
	if x, ok := w.Time(i); x != 0 || ok {
		t.Errorf("Time(%d) is %d, %v", i, x, ok)
	}
	for _, d := range []int{0, 1, 2, -1} {
		if p, roles := w.Roles(i, d); p != (ptp.Prior{}) || len(roles) != 0 {
			t.Errorf("Roles(%d, %d) is %+v, %v", i, d, p, roles)
		}
	}
	if w.Node(i) != nil {
		t.Errorf("Node(%d) is there", i)
	}
}

// P25.5, P25.6: a nil World has nothing, and each step is ErrArg.
func TestNil(t *testing.T) {
	holdNothing(t, nil)
	holdNothing(t, &world.World{})
}

// P25.6: a node that isn't there, and one that is; what is told is new memory each time.
func TestTold(t *testing.T) {
	w := newWorld(t, four())
	do(t, w, world.Step{K: world.Say, N: 0, To: all, Bytes: []byte("hello")})
	run(t, w, 75_000)
	for _, i := range append([]int{4}, strangers...) {
		holdNoNode(t, w, i)
	}
	for i := range 4 {
		if w.Node(i) == nil || w.Node(i) != w.Node(i) {
			t.Errorf("node %d isn't there", i)
		}
		if x, ok := w.Time(i); x != 75_000*ns || !ok {
			t.Errorf("Time(%d) is %d, %v", i, x, ok)
		}
	}
	for _, d := range []int{2, -1, 127, most} {
		if p, roles := w.Roles(0, d); p != (ptp.Prior{}) || len(roles) != 0 {
			t.Errorf("Roles(0, %d) is %+v, %v", d, p, roles)
		}
	}
	before := text(w.Plan()) + text(w.Sent()) + text(w.Got()) + text(w.Others())
	if len(w.Sent()) < 2 || len(w.Got()) < 2 || len(w.Others()) == 0 {
		t.Fatal("nothing happened:", before)
	}
	p := w.Plan()
	p.Windows[0].Min = -1
	for _, l := range p.Gates {
		for i := range l.Slots {
			l.Slots[i].Open = 0
		}
	}
	clear(p.Gates)
	clear(w.Sent())
	got, others := w.Got(), w.Others()
	clear(got[1].Data)
	clear(others[0].Frame.Data)
	clear(got)
	clear(others)
	_, roles := w.Roles(0, 0)
	clear(roles)
	if after := text(w.Plan()) + text(w.Sent()) + text(w.Got()) + text(w.Others()); after != before {
		t.Errorf("what was told is kept: %s, not %s", after, before)
	}
	if _, roles := w.Roles(0, 0); reflect.DeepEqual(roles, []int{0, 0, 0}) {
		t.Error("roles that were told are kept")
	}
}
