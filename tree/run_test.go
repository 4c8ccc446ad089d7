package tree_test

import (
	"math/big"
	"slices"
	"testing"

	"sandglass/api"
	"sandglass/best"
	"sandglass/ptp"
	"sandglass/tree"
)

// chance is a row of numbers that looks like one at random, always the same.
type chance uint64

func (c *chance) below(n int) int {
	*c = *c*6364136223846793005 + 1442695040888963407
	return int(*c>>20) % n
}

// one is one of some numbers.
func (c *chance) one(xs ...int) int { return xs[c.below(len(xs))] }

// event is a link that was said to be there or gone, or a message that was heard.
type event struct {
	at   int
	isUp bool
	up   bool
	m    ptp.Msg
	now  int
}

// plain is a tree by the chapter's words: all that ever was, searched through each time.
type plain struct {
	domain, ports, most int
	own                 ptp.Prior
	log                 []event
}

// port is whether a port's link is there, and what it has heard: one event, or none.
func (p *plain) port(at int) (bool, []event) {
	up := false
	var heard []event
	for _, e := range p.log {
		switch {
		case e.at != at:
		case !e.isUp:
			heard = []event{e}
		case e.up != up:
			up, heard = e.up, nil
		}
	}
	return up, heard
}

func (p *plain) has(at int) bool { return at >= 0 && at < p.ports }

func (p *plain) up(at int, up bool) {
	if p.has(at) {
		p.log = append(p.log, event{at: at, isUp: true, up: up})
	}
}

func (p *plain) in(at int, m ptp.Msg, now int) api.Errno {
	if m.Check() != api.OK || m.Kind != ptp.Announce || m.Domain != p.domain {
		return api.ErrKind
	}
	if up, _ := p.port(at); !p.has(at) || !up {
		return api.ErrPort
	}
	for _, id := range append([]int{m.Src}, m.Path...) {
		if id == p.own.Id {
			return api.ErrOrder
		}
	}
	if m.Steps == 255 || len(m.Path) == 32 {
		return api.ErrOrder
	}
	m.Path = slices.Clone(m.Path)
	p.log = append(p.log, event{at: at, m: m, now: now})
	return api.OK
}

func (p *plain) best(now int) (best.Vec, []int) {
	var list []best.Heard
	for at := range p.ports {
		up, heard := p.port(at)
		h := best.Heard{Up: up}
		for _, e := range heard {
			ago := new(big.Int).Sub(big.NewInt(int64(now)), big.NewInt(int64(e.now)))
			h.Ok = ago.Sign() >= 0 && ago.Cmp(big.NewInt(int64(p.most))) <= 0
			h.Vec = best.Vec{Root: e.m.Best, Steps: e.m.Steps, From: e.m.Src, Port: e.m.Port}
		}
		list = append(list, h)
	}
	return best.Choose(p.own, list)
}

func (p *plain) out(at, seq, now int) (ptp.Msg, bool) {
	v, roles := p.best(now)
	if !p.has(at) || roles[at] != master {
		return ptp.Msg{}, false
	}
	m := ptp.Msg{Kind: ptp.Announce, Domain: p.domain, Seq: seq, Src: p.own.Id, Port: at, Best: p.own, Path: []int{p.own.Id}}
	if v.At >= 0 {
		_, heard := p.port(v.At)
		m.Best, m.Steps, m.Path = v.Root, v.Steps+1, nil
		for _, id := range heard[0].m.Path {
			m.Path = append(m.Path, id)
		}
		m.Path = append(m.Path, p.own.Id)
	}
	if m.Check() != api.OK {
		return ptp.Msg{}, false
	}
	return m, true
}

// msg is mostly a right Announce of the domain, of few clocks, seldom from or by the own one.
func (c *chance) msg(domain int) ptp.Msg {
	m := ptp.Msg{Kind: ptp.Announce, Domain: domain, Seq: c.below(3), Src: 41 + c.below(8), Port: c.below(3), Steps: c.below(4)}
	m.Best = ptp.Prior{One: 5, Class: 5, Two: c.one(4, 4, 4, 5, 6), Id: 49 + c.below(2)}
	for range c.below(4) {
		m.Path = append(m.Path, 40+c.below(9))
	}
	switch c.below(16) {
	case 0:
		m.Kind = c.one(ptp.Req, ptp.Sync, ptp.Resp, ptp.Follow, ptp.RespMore, 1, -1)
	case 1:
		m.Domain = c.one(0, 1, 2, 127, 128, -1)
	case 2:
		m.Steps = c.one(253, 254, 255, 256, -1)
	case 3:
		m.Path = ids(c.one(0, 30, 31, 32, 33), map[int]int{c.below(40): 50})
	case 4:
		m.Src = c.one(50, 0, mostId, mostId+1, -1)
	case 5:
		m.Path = append(m.Path, c.one(50, 0, mostId, mostId+1, -1))
	case 6:
		at := [...]*int{&m.Seq, &m.Port, &m.ToPort, &m.Best.One, &m.Best.Class, &m.Best.Two, &m.Best.Id}
		*at[c.below(len(at))] = c.one(-1, 0, 1, 255, 256, 65535, 65536)
	}
	return m
}

// time is mostly one near some others, else one at an end.
func (c *chance) time(near int) int {
	switch c.below(60) {
	case 0:
		return c.one(most, least, most-1, least+1, most-99, least+99, 0, 1<<62, -1<<62)
	case 1:
		return near - c.below(300)
	}
	return near + c.below(20)
}

// count is how often each error was, how often each role, and how often something was so and wasn't.
type count struct {
	errs  map[api.Errno]int
	roles [4]int
	root  [2]int
	outs  [2]int
	steps [2]int
}

func is(x bool) int {
	if x {
		return 1
	}
	return 0
}

// hold holds what a tree tells against what a plain one does.
func (k *count) hold(t *testing.T, c *chance, x *tree.Tree, p *plain, near int) {
	t.Helper()
	now := c.time(near)
	v, roles := p.best(now)
	holdBest(t, x, now, v, roles...)
	for _, role := range roles {
		k.roles[role]++
	}
	k.root[is(v.At == -1)]++
	at, seq := c.below(p.ports+2)-1, c.below(65536)
	if c.below(20) == 0 {
		seq = c.one(-1, 65536, most, least)
	}
	m, ok := p.out(at, seq, now)
	k.outs[is(ok)]++
	if !ok {
		holdNoOut(t, x, at, seq, now)
		return
	}
	k.steps[is(m.Steps > 0)]++
	holdOut(t, x, at, seq, now, m)
}

// run calls a tree and a plain one, and holds them against each other.
func run(t *testing.T, c *chance, steps int, k *count) {
	t.Helper()
	p := &plain{domain: c.one(0, 1, 2, 127), ports: c.below(9), most: c.one(1, 30, 100, 1000, 1<<40)}
	p.own = ptp.Prior{One: 5, Class: 5, Two: 5, Id: 50}
	x := newTree(t, p.domain, p.own, p.ports, p.most)
	now := c.one(0, -500, 1<<50)
	k.hold(t, c, x, p, now)
	for range steps {
		now += c.below(12)
		at := c.below(p.ports+2) - 1
		if c.below(6) == 0 {
			up := c.below(6) > 0
			x.Up(at, up)
			p.up(at, up)
		} else {
			m, when := c.msg(p.domain), c.time(now)
			want := p.in(at, m, when)
			holdIn(t, x, at, m, when, want)
			k.errs[want]++
			for i := range m.Path {
				m.Path[i] = 50 // what was handed in isn't kept
			}
		}
		k.hold(t, c, x, p, now)
		if t.Failed() {
			t.FailNow()
		}
	}
}

// P20.1 to P20.4: many trees, long runs, held against the chapter's words.
func TestLongRuns(t *testing.T) {
	c := chance(1)
	k := count{errs: map[api.Errno]int{}}
	for range 200 {
		run(t, &c, 250, &k)
	}
	for _, err := range []api.Errno{api.OK, api.ErrKind, api.ErrPort, api.ErrOrder} {
		if k.errs[err] < 500 {
			t.Errorf("of %d there are only %d", err, k.errs[err])
		}
	}
	for _, x := range append(k.roles[:], k.root[0], k.root[1], k.outs[0], k.outs[1], k.steps[0], k.steps[1]) {
		if x < 1000 {
			t.Errorf("of something there is too little: %+v", k)
		}
	}
}
