package bridge_test

import (
	"bytes"
	"testing"

	"sandglass/api"
	"sandglass/bridge"
	"sandglass/ether"
	"sandglass/ptp"
)

// holdCheck holds Check and New against one answer.
func holdCheck(t *testing.T, c bridge.Conf, want api.Errno) {
	t.Helper()
	if err := c.Check(); err != want {
		t.Errorf("Check of %+v is %d, not %d", c, err, want)
	}
	b, err := bridge.New(c)
	if err != want || (b == nil) != (want != api.OK) {
		t.Errorf("New(%+v) is %v, %d, not %d", c, b, err, want)
	}
}

// holdEnds holds a number of a node against the ends between which it is right.
func holdEnds(t *testing.T, low, high int, set func(c *bridge.Conf, x int)) {
	t.Helper()
	for _, x := range []int{low, low + 1, high - 1, high, low - 1, high + 1, low - 2, -low, 1<<32 + low, -1 << 48, most, least, least + 1} {
		c := conf(5, 4, bridge.Flow{Vid: 9, In: 1, Outs: 5, Max: 100}, bridge.Flow{Vid: 9, In: 0, Outs: 14, Max: 200})
		set(&c, x)
		want := api.OK
		if x < low || x > high {
			want = api.ErrArg
		}
		holdCheck(t, c, want)
	}
}

// P23.1: each number of a node at its ends, and beyond.
func TestCheck(t *testing.T) {
	holdCheck(t, conf(5, 4), api.OK)
	holdCheck(t, bridge.Conf{}, api.ErrArg)
	holdEnds(t, 1, 1<<48-1, func(c *bridge.Conf, x int) { c.Id, c.Prior[0].Id, c.Prior[1].Id = x, x, x })
	holdEnds(t, 1000, 1<<30, func(c *bridge.Conf, x int) { c.Every = x })
	holdEnds(t, 1, 8, func(c *bridge.Conf, x int) { c.Ports, c.Flows = x, nil })
	holdEnds(t, 4, 8, func(c *bridge.Conf, x int) { c.Ports = x })
	for d := range 2 {
		holdEnds(t, 5, 5, func(c *bridge.Conf, x int) { c.Prior[d].Id = x })
		holdEnds(t, 0, 255, func(c *bridge.Conf, x int) { c.Prior[d].One = x })
		holdEnds(t, 0, 255, func(c *bridge.Conf, x int) { c.Prior[d].Class = x })
		holdEnds(t, 0, 255, func(c *bridge.Conf, x int) { c.Prior[d].Two = x })
	}
	for i := range 2 {
		holdEnds(t, 2, 4094, func(c *bridge.Conf, x int) { c.Flows[i].Vid = x })
		holdEnds(t, 0, 3, func(c *bridge.Conf, x int) { c.Flows[i].In, c.Flows[i].Outs = x, 0 })
		holdEnds(t, 0, 1600, func(c *bridge.Conf, x int) { c.Flows[i].Max = x })
	}
}

// P23.1: Outs is any set of ports, but with In, or with one that isn't there.
func TestCheckOuts(t *testing.T) {
	for in := range 4 {
		for outs := range 16 {
			want := api.OK
			if outs>>in&1 == 1 {
				want = api.ErrArg
			}
			holdCheck(t, conf(5, 4, bridge.Flow{Vid: 9, In: in, Outs: outs}), want)
		}
		for _, outs := range []int{16, 16 | 3&^(1<<in), 1 << 8, 1 << 32, 1 << 62, -1, -16, most, least} {
			holdCheck(t, conf(5, 4, bridge.Flow{Vid: 9, In: in, Outs: outs}), api.ErrArg)
		}
	}
	holdCheck(t, conf(5, 8, bridge.Flow{Vid: 9, In: 7, Outs: 127}), api.OK)
	holdCheck(t, conf(5, 8, bridge.Flow{Vid: 9, In: 0, Outs: 254}), api.OK)
	holdCheck(t, conf(5, 8, bridge.Flow{Vid: 9, In: 0, Outs: 256}), api.ErrArg)
	for _, in := range strangers {
		holdCheck(t, conf(5, 8, bridge.Flow{Vid: 9, In: in, Outs: 1}), api.ErrArg)
	}
}

// P23.1: 64 flows and no more; the same one may be there twice.
func TestCheckMany(t *testing.T) {
	for _, n := range []int{0, 1, 63, 64, 65, 1000} {
		c := conf(5, 2)
		for range n {
			c.Flows = append(c.Flows, bridge.Flow{Vid: 2, Outs: 2})
		}
		want := api.OK
		if n > 64 {
			want = api.ErrArg
		}
		holdCheck(t, c, want)
	}
}

// P23.1: what a node is made of is neither kept nor changed.
func TestNewKeepsNothing(t *testing.T) {
	flows := make([]bridge.Flow, 1, 5)
	f := bridge.Flow{Vid: 9, Mac: api.Mac{1, 1}, In: 0, Outs: 2, Max: 100}
	flows[0] = f
	b := newNode(t, conf(5, 3, flows...))
	if flows[0] != f || flows[:2][1] != (bridge.Flow{}) {
		t.Errorf("New turned its flows: %+v", flows[:2])
	}
	flows[0] = bridge.Flow{Vid: 10, Mac: api.Mac{1, 7}, In: 1, Outs: 5, Max: 1}
	x, _ := bridge.Numbered(f, api.Mac{2}, 1, nil)
	holdOuts(t, b, 0, x, bridge.Out{Port: 1, Class: 7, Bytes: x})
	holdCounts(t, b, nil)
}

// P23.1: of a node that is new all links are gone, no address is known, nothing is counted; it knows no time, and its own clock is the best.
func TestNew(t *testing.T) {
	for ports := 1; ports <= 8; ports++ {
		c := conf(5, ports)
		c.Prior[1].Two = 3
		b := newNode(t, c)
		holdRoles(t, b, 0, 0, c.Prior[0], make([]int, ports)...)
		holdRoles(t, b, 1, 0, c.Prior[1], make([]int, ports)...)
		for _, d := range append([]int{2, 127}, strangers...) {
			holdRoles(t, b, d, 0, ptp.Prior{})
		}
		for _, port := range append([]int{0, ports - 1, ports}, strangers...) {
			holdAble(t, b, port, 0, false)
		}
		holdNoAt(t, b, 0)
		holdCounts(t, b, nil)
		holdPlaces(t, b, 0)
		for n := range 3 {
			holdTold(t, b.Tick(tick)) // no link, so nothing goes out
			holdAt(t, b, 9*tick, 9*tick)
			holdRoles(t, b, n&1, 9*tick, c.Prior[n&1], make([]int, ports)...)
		}
	}
}

// P23.1: nodes never meet.
func TestTwoNodes(t *testing.T) {
	c := conf(5, 2)
	a, b := newNode(t, c), newNode(t, c)
	a.Link(0, true)
	measure(t, a, 0, 300*ns, 0)
	a.In(1, encode(t, ether.Frame{Dst: api.Mac{2}, Src: api.Mac{2, 1}, Type: 0x900}), 0)
	a.In(0, nil, 0)
	holdAble(t, b, 0, 0, false)
	holdPlaces(t, a, 1)
	holdPlaces(t, b, 0)
	holdCounts(t, a, counts{bridge.Bad: 1})
	holdCounts(t, b, nil)
	holdRoles(t, b, 0, 0, c.Prior[0], off, off)
}

// holdOuts holds what goes out of a frame against what must; nothing is the node's own.
func holdOuts(t *testing.T, b *bridge.Bridge, port int, x []byte, want ...bridge.Out) {
	t.Helper()
	kept := bytes.Clone(x)
	got, own := b.In(port, x, 0)
	if text(got) != text(want) || len(own) != 0 {
		t.Errorf("of %v goes out\n%+v, not\n%+v; own are %+v", x, got, want, own)
	}
	if !bytes.Equal(x, kept) {
		t.Error("In turned what was handed in")
	}
}
