package tree_test

import (
	"math"
	"slices"
	"testing"

	"sandglass/api"
	"sandglass/best"
	"sandglass/ptp"
	"sandglass/tree"
)

const (
	most   = math.MaxInt
	least  = math.MinInt
	mostId = 1<<48 - 1
)

// What a port is to do, by shorter names.
const (
	off     = best.Off
	master  = best.Master
	slave   = best.Slave
	passive = best.Passive
)

// places are some that no port has.
var places = []int{-1, -2, 8, 9, 64, 1 << 32, least, most}

var (
	own   = ptp.Prior{One: 5, Class: 5, Two: 5, Id: 50}
	root  = ptp.Prior{One: 3, Class: 200, Two: 100, Id: 99} // a better one
	worse = ptp.Prior{One: 6, Id: 1}
)

// self is what is best where no better clock was heard.
var self = best.Vec{Root: own, From: 50, At: -1}

// newTree is one that must be there.
func newTree(t *testing.T, domain int, own ptp.Prior, ports, most int) *tree.Tree {
	t.Helper()
	x, err := tree.New(domain, own, ports, most)
	if err != api.OK || x == nil {
		t.Fatalf("New(%d, %+v, %d, %d) is %v, %d", domain, own, ports, most, x, err)
	}
	return x
}

// linked is a tree of domain 3, for which what was heard holds 100, all whose ports have links.
func linked(t *testing.T, ports int) *tree.Tree {
	t.Helper()
	x := newTree(t, 3, own, ports, 100)
	for at := range ports {
		x.Up(at, true)
	}
	return x
}

// announce is one of domain 3.
func announce(p ptp.Prior, steps, src, port int, path ...int) ptp.Msg {
	return ptp.Msg{Kind: ptp.Announce, Domain: 3, Seq: 11, Src: src, Port: port, Best: p, Steps: steps, Path: path}
}

// from is a vector of a message, heard at a port.
func from(m ptp.Msg, at int) best.Vec {
	return best.Vec{Root: m.Best, Steps: m.Steps, From: m.Src, Port: m.Port, At: at}
}

// holdIn holds In against its error, and that the message is as it was.
func holdIn(t *testing.T, x *tree.Tree, at int, m ptp.Msg, now int, want api.Errno) {
	t.Helper()
	path := slices.Clone(m.Path[:cap(m.Path)])
	if err := x.In(at, m, now); err != want {
		t.Errorf("In(%d, %+v, %d) is %d, not %d", at, m, now, err, want)
	}
	if !slices.Equal(m.Path[:cap(m.Path)], path) {
		t.Errorf("In(%d, .., %d) has changed the path to %v", at, now, m.Path[:cap(m.Path)])
	}
}

// holdBest holds Best, and Root with it, against what they must be.
func holdBest(t *testing.T, x *tree.Tree, now int, want best.Vec, roles ...int) {
	t.Helper()
	for range 2 {
		v, list := x.Best(now)
		if v != want || !slices.Equal(list, roles) {
			t.Errorf("Best(%d) is %+v, %v, not %+v, %v", now, v, list, want, roles)
		}
		// What was answered is nobody else's.
		for at := range list[:cap(list)] {
			list[:cap(list)][at] = 77
		}
		if x.Root(now) != (want.At == -1) {
			t.Errorf("Root(%d) is %v", now, x.Root(now))
		}
	}
}

// same tells whether two messages are one; no path and an empty one are.
func same(m, n ptp.Msg) bool {
	isPath := slices.Equal(m.Path, n.Path)
	return isPath && m.Kind == n.Kind && m.Domain == n.Domain && m.Seq == n.Seq && m.Src == n.Src && m.Port == n.Port &&
		m.Corr == n.Corr && m.Time == n.Time && m.To == n.To && m.ToPort == n.ToPort && m.Rate == n.Rate &&
		m.Best == n.Best && m.Steps == n.Steps
}

// holdOut holds Out against its message.
func holdOut(t *testing.T, x *tree.Tree, at, seq, now int, want ptp.Msg) {
	t.Helper()
	for range 2 {
		m, ok := x.Out(at, seq, now)
		if !ok || !same(m, want) || m.Check() != api.OK {
			t.Errorf("Out(%d, %d, %d) is %+v, %v, not %+v", at, seq, now, m, ok, want)
		}
		// What was answered is nobody else's.
		for i := range m.Path[:cap(m.Path)] {
			m.Path[:cap(m.Path)][i] = 77
		}
	}
}

// holdNoOut holds Out against that it tells nothing.
func holdNoOut(t *testing.T, x *tree.Tree, at, seq, now int) {
	t.Helper()
	if m, ok := x.Out(at, seq, now); ok || !same(m, ptp.Msg{}) {
		t.Errorf("Out(%d, %d, %d) is %+v, %v", at, seq, now, m, ok)
	}
}

// P20.1: each argument at its ends, and one beyond.
func TestNew(t *testing.T) {
	set := func(change func(p *ptp.Prior)) ptp.Prior {
		p := own
		change(&p)
		return p
	}
	for _, x := range []struct {
		domain      int
		own         ptp.Prior
		ports, most int
		want        api.Errno
	}{
		{0, own, 2, 100, api.OK}, {127, own, 2, 100, api.OK}, {-1, own, 2, 100, api.ErrArg}, {128, own, 2, 100, api.ErrArg},
		{least, own, 2, 100, api.ErrArg}, {most, own, 2, 100, api.ErrArg}, {256, own, 2, 100, api.ErrArg},
		{3, own, 0, 100, api.OK}, {3, own, 8, 100, api.OK}, {3, own, -1, 100, api.ErrArg}, {3, own, 9, 100, api.ErrArg},
		{3, own, least, 100, api.ErrArg}, {3, own, most, 100, api.ErrArg},
		{3, own, 2, 1, api.OK}, {3, own, 2, 1 << 40, api.OK}, {3, own, 2, 0, api.ErrArg}, {3, own, 2, 1<<40 + 1, api.ErrArg},
		{3, own, 2, -1, api.ErrArg}, {3, own, 2, least, api.ErrArg}, {3, own, 2, most, api.ErrArg},
		{3, ptp.Prior{}, 2, 100, api.OK},
		{3, set(func(p *ptp.Prior) { p.One = 255 }), 2, 100, api.OK}, {3, set(func(p *ptp.Prior) { p.One = 256 }), 2, 100, api.ErrArg},
		{3, set(func(p *ptp.Prior) { p.One = 0 }), 2, 100, api.OK}, {3, set(func(p *ptp.Prior) { p.One = -1 }), 2, 100, api.ErrArg},
		{3, set(func(p *ptp.Prior) { p.Class = 255 }), 2, 100, api.OK}, {3, set(func(p *ptp.Prior) { p.Class = 256 }), 2, 100, api.ErrArg},
		{3, set(func(p *ptp.Prior) { p.Class = 0 }), 2, 100, api.OK}, {3, set(func(p *ptp.Prior) { p.Class = -1 }), 2, 100, api.ErrArg},
		{3, set(func(p *ptp.Prior) { p.Two = 255 }), 2, 100, api.OK}, {3, set(func(p *ptp.Prior) { p.Two = 256 }), 2, 100, api.ErrArg},
		{3, set(func(p *ptp.Prior) { p.Two = 0 }), 2, 100, api.OK}, {3, set(func(p *ptp.Prior) { p.Two = -1 }), 2, 100, api.ErrArg},
		{3, set(func(p *ptp.Prior) { p.Id = mostId }), 2, 100, api.OK}, {3, set(func(p *ptp.Prior) { p.Id = mostId + 1 }), 2, 100, api.ErrArg},
		{3, set(func(p *ptp.Prior) { p.Id = 0 }), 2, 100, api.OK}, {3, set(func(p *ptp.Prior) { p.Id = -1 }), 2, 100, api.ErrArg},
		{-1, ptp.Prior{One: -1}, -1, -1, api.ErrArg},
	} {
		got, err := tree.New(x.domain, x.own, x.ports, x.most)
		if err != x.want || (got != nil) != (x.want == api.OK) {
			t.Errorf("New(%d, %+v, %d, %d) is %v, %d, not %d", x.domain, x.own, x.ports, x.most, got, err, x.want)
		}
	}
}

// P20.1: a new one has heard nothing, and all links are gone.
func TestNewEmpty(t *testing.T) {
	for ports := range 9 {
		x := newTree(t, 3, own, ports, 100)
		for _, now := range []int{0, 1, -1, least, most} {
			holdBest(t, x, now, self, make([]int, ports)...)
			for at := range ports {
				holdNoOut(t, x, at, 1, now)
				holdIn(t, x, at, announce(root, 0, 99, 1, 99), now, api.ErrPort)
			}
		}
		holdBest(t, x, 0, self, make([]int, ports)...)
		for at := range ports {
			x.Up(at, true)
		}
		holdBest(t, x, 0, self, slices.Repeat([]int{master}, ports)...)
	}
}

// P20.1: the bounds of New are those by which the others go: the domain, the ports, for how long.
func TestNewEnds(t *testing.T) {
	for _, domain := range []int{0, 127} {
		for _, far := range []int{1, 1 << 40} {
			x := newTree(t, domain, own, 8, far)
			x.Up(7, true)
			m := announce(root, 0, 99, 1, 99)
			m.Domain = domain
			holdIn(t, x, 7, m, 1000, api.OK)
			holdBest(t, x, 1000+far, from(m, 7), 0, 0, 0, 0, 0, 0, 0, slave)
			holdBest(t, x, 1001+far, self, 0, 0, 0, 0, 0, 0, 0, master)
			out, ok := x.Out(7, 1, 1001+far)
			if !ok || out.Domain != domain {
				t.Errorf("Out is %+v, %v", out, ok)
			}
		}
	}
}

// P20.1 to P20.4: the chapter's example, and which port hears what.
func TestExample(t *testing.T) {
	a := newTree(t, 0, ptp.Prior{One: 1, Id: 1}, 1, 100)
	b := newTree(t, 0, ptp.Prior{One: 2, Id: 2}, 1, 100)
	a.Up(0, true)
	b.Up(0, true)
	m, ok := a.Out(0, 1, 10)
	n, alike := b.Out(0, 1, 10)
	if !ok || !alike {
		t.Fatal("nothing is told")
	}
	holdIn(t, b, 0, m, 10, api.OK)
	holdIn(t, a, 0, n, 10, api.OK)
	holdBest(t, b, 10, best.Vec{Root: ptp.Prior{One: 1, Id: 1}, From: 1}, slave)
	holdBest(t, a, 10, best.Vec{Root: ptp.Prior{One: 1, Id: 1}, From: 1, At: -1}, master)
	holdNoOut(t, b, 0, 2, 10)
}

// P20.1: Up of no port does nothing, though something was heard elsewhere.
func TestUpNoPort(t *testing.T) {
	m := announce(root, 0, 99, 1, 99)
	for ports := 1; ports <= 8; ports++ {
		x := linked(t, ports)
		holdIn(t, x, 0, m, 0, api.OK)
		roles := slices.Repeat([]int{master}, ports)
		roles[0] = slave
		for _, at := range append([]int{ports, ports + 1}, places...) {
			if at >= 0 && at < ports {
				continue
			}
			x.Up(at, true)
			x.Up(at, false)
			x.Up(at, true)
			holdIn(t, x, at, m, 0, api.ErrPort)
			holdBest(t, x, 0, from(m, 0), roles...)
		}
	}
}

// P20.1: the link is there twice: what was heard stays; gone twice, and there again: it is forgotten.
func TestUp(t *testing.T) {
	m := announce(root, 0, 99, 1, 99)
	x := linked(t, 3)
	holdIn(t, x, 1, m, 0, api.OK)
	holdIn(t, x, 2, m, 0, api.OK)
	x.Up(1, true)
	x.Up(1, true)
	holdBest(t, x, 0, from(m, 1), master, slave, passive)
	holdOut(t, x, 0, 5, 0, announceOf(5, 0, root, 1, 99, 50))
	x.Up(1, false)
	holdBest(t, x, 0, from(m, 2), master, off, slave)
	holdIn(t, x, 1, m, 0, api.ErrPort)
	x.Up(1, false)
	holdBest(t, x, 0, from(m, 2), master, off, slave)
	holdIn(t, x, 1, m, 0, api.ErrPort)
	x.Up(1, true)
	holdBest(t, x, 0, from(m, 2), master, master, slave)
	x.Up(2, false)
	x.Up(2, true)
	holdBest(t, x, 0, self, master, master, master)
	holdIn(t, x, 1, m, 0, api.OK)
	holdBest(t, x, 0, from(m, 1), master, slave, master)
}

// announceOf is what a port of the own clock tells.
func announceOf(seq, port int, p ptp.Prior, steps int, path ...int) ptp.Msg {
	return ptp.Msg{Kind: ptp.Announce, Domain: 3, Seq: seq, Src: 50, Port: port, Best: p, Steps: steps, Path: path}
}

// P20.1 to P20.4: a nil one, and one that New didn't make.
func TestNil(t *testing.T) {
	var x *tree.Tree
	m := announce(root, 0, 99, 1, 99)
	m.Domain = 0
	for _, at := range append([]int{0, 1, 7}, places...) {
		x.Up(at, true)
		x.Up(at, false)
		for _, now := range []int{0, 1, least, most} {
			holdIn(t, x, at, m, now, api.ErrKind)
			holdIn(t, x, at, ptp.Msg{Kind: 1}, now, api.ErrKind)
			holdNoOut(t, x, at, 1, now)
		}
	}
	for _, now := range []int{0, 1, least, most} {
		if v, roles := x.Best(now); v != (best.Vec{At: -1}) || len(roles) != 0 {
			t.Errorf("Best of nil is %+v, %v", v, roles)
		}
		if x.Root(now) {
			t.Error("Root of nil is true")
		}
	}
	var zero tree.Tree
	zero.Up(0, true)
	holdIn(t, &zero, 0, m, 0, api.ErrPort)
	holdBest(t, &zero, 0, best.Vec{At: -1})
	holdNoOut(t, &zero, 0, 0, 0)
}
