package sieve_test

import (
	"testing"

	"sandglass/api"
	"sandglass/gates"
	"sandglass/meter"
	"sandglass/sieve"
)

// chance is a row of numbers that looks like one at random, always the same.
type chance uint64

func (c *chance) below(n int) int {
	*c = *c*6364136223846793005 + 1442695040888963407
	return int(*c>>20) % n
}

// mostly is a number below n, but seldom one of others.
func (c *chance) mostly(n int, others ...int) int {
	if c.below(30) == 0 {
		return others[c.below(len(others))]
	}
	return c.below(n)
}

// list is a right list with a short cycle.
func (c *chance) list() gates.List {
	l := gates.List{Base: c.below(100), Cycle: 1 + c.below(60)}
	for left := l.Cycle; left > 0 && len(l.Slots) < 1+c.below(8); {
		long := 1 + c.below(left)
		l.Slots = append(l.Slots, gates.Slot{Open: c.below(256), Len: long})
		left -= long
	}
	return l
}

// conf is a meter for a few frames.
func (c *chance) conf() meter.Conf {
	return meter.Conf{Rate: c.below(mostBits), Burst: c.below(20000), More: c.below(mostBits), Beyond: c.below(20000), Couple: c.below(2) == 0, Aware: c.below(2) == 0, Shut: c.below(3) == 0}
}

// stream is one of few addresses and VLANs, so that streams meet.
func (c *chance) stream(lists, meters int) sieve.Stream {
	x := sieve.Stream{Port: c.below(5) - 1, Vid: 1 + c.below(2), Mac: mac(byte(c.below(4))), Src: c.below(3) == 0, Gate: c.below(lists+1) - 1, Prio: c.below(9) - 1, Rate: c.below(meters+1) - 1}
	if c.below(3) > 0 {
		x.Max, x.Shut = c.below(1601), c.below(3) == 0
	}
	return x
}

// plain is a sieve by the chapter's words: one plain list or map for each thing.
type plain struct {
	ss      []sieve.Stream
	open    [][]bool // of each list, for each nanosecond of its cycle, whether gate 0 is open
	base    []int
	meters  []*meter.Meter
	blocked map[int]bool
	counts  map[[2]int]int // by stream and what happened
}

func newPlain(t *testing.T, ss []sieve.Stream, gs []gates.List, ms []meter.Conf, now int) *plain {
	t.Helper()
	p := &plain{ss: ss, blocked: map[int]bool{}, counts: map[[2]int]int{}}
	for _, l := range gs {
		var open []bool
		for _, s := range l.Slots {
			for range s.Len {
				open = append(open, s.Open%2 == 1)
			}
		}
		for len(open) < l.Cycle {
			open = append(open, l.Slots[len(l.Slots)-1].Open%2 == 1)
		}
		p.open, p.base = append(p.open, open), append(p.base, l.Base)
	}
	for _, c := range ms {
		m, err := meter.New(c, now)
		if err != api.OK {
			t.Fatal("meter.New is", err)
		}
		p.meters = append(p.meters, m)
	}
	return p
}

func (p *plain) find(f frame) int {
	for i, x := range p.ss {
		if x.Vid == f.vid && (x.Port == -1 || x.Port == f.port) && (!x.Src && x.Mac == f.dst || x.Src && x.Mac == f.src) {
			return i
		}
	}
	return -1
}

// isOpen tells whether a list's gate 0 is open at a time.
func (p *plain) isOpen(l, now int) bool {
	if now < -maxTime || now > 2*maxTime {
		return false
	}
	n := len(p.open[l])
	return p.open[l][((now-p.base[l])%n+n)%n]
}

// in is what happens to a frame, and a note of it.
func (p *plain) in(f frame) answer {
	a := p.pass(f)
	p.counts[[2]int{a.i, a.what}]++
	return a
}

func (p *plain) pass(f frame) answer {
	i := p.find(f)
	if i < 0 {
		return answer{i: -1, prio: f.prio, what: sieve.Other}
	}
	x, a := p.ss[i], answer{i: i}
	if p.blocked[i] {
		a.what = sieve.Blocked
		return a
	}
	if x.Max > 0 && f.size > x.Max {
		p.blocked[i] = x.Shut
		a.what = sieve.Long
		return a
	}
	if x.Gate >= 0 && !p.isOpen(x.Gate, f.now) {
		a.what = sieve.Closed
		return a
	}
	if x.Rate >= 0 {
		colour, _ := p.meters[x.Rate].In(f.now, f.size, false)
		if colour == meter.Red {
			a.what = sieve.Fast
			return a
		}
		a.yellow = colour == meter.Yellow
	}
	a.prio = x.Prio
	if x.Prio < 0 {
		a.prio = f.prio
	}
	return a
}

func (p *plain) reopen(i int) api.Errno {
	if i < 0 || i >= len(p.ss) {
		return api.ErrNone
	}
	delete(p.blocked, i)
	if r := p.ss[i].Rate; r >= 0 {
		p.meters[r].Open()
	}
	return api.OK
}

// count is how often each of the six has happened to a stream's frames.
func (p *plain) count(i int) [6]int {
	var counts [6]int
	for what := range 6 {
		if i >= 0 && i < len(p.ss) {
			counts[what] = p.counts[[2]int{i, what}]
		}
		if i == len(p.ss) {
			counts[what] = p.counts[[2]int{-1, what}]
		}
	}
	return counts
}

// frame is what may come in at about a time.
func (c *chance) frame(now int) frame {
	return frame{
		now:  c.mostly(1, -1, -1000, maxTime, 2*maxTime) + now,
		port: c.mostly(4, -1, 8, most, least),
		vid:  1 + c.mostly(2, -1, -2, 2, 4096),
		dst:  mac(byte(c.below(5))), src: mac(byte(c.below(5))),
		prio: c.mostly(8, -1, 8, most, least),
		size: c.mostly(1601, 1601, -1, most, least),
	}
}

// run sends frames to a sieve and to a plain one; how often each of the six has happened.
func run(t *testing.T, c *chance, steps int) [6]int {
	t.Helper()
	var ss []sieve.Stream
	var gs []gates.List
	var ms []meter.Conf
	for range c.below(1 << c.below(7)) {
		gs = append(gs, c.list())
	}
	for range c.below(1 << c.below(7)) {
		ms = append(ms, c.conf())
	}
	for range c.below(1 << c.below(7)) {
		ss = append(ss, c.stream(len(gs), len(ms)))
	}
	now := c.below(1000)
	s, err := sieve.New(ss, gs, ms, now)
	if err != api.OK {
		t.Fatalf("New(%v, %v, %v, %d) is %d", ss, gs, ms, now, err)
	}
	p := newPlain(t, ss, gs, ms, now)
	for range steps {
		now += c.below(2000)
		f := c.frame(now)
		// Mostly as frames of streams come: too few would be of one.
		if len(ss) > 0 && c.below(2) == 0 {
			x := ss[c.below(len(ss))]
			f.port, f.vid, f.dst, f.src = max(x.Port, 0), x.Vid, x.Mac, x.Mac
		}
		holdFind(t, s, f, p.find(f))
		i, prio, yellow, what := s.In(f.now, f.port, f.vid, f.dst, f.src, f.prio, f.size)
		if got, want := (answer{i, prio, yellow, what}), p.in(f); got != want {
			t.Fatalf("%v, %v, %v: In of %v is %v, not %v", ss, gs, ms, f, got, want)
		}
		if c.below(10) == 0 {
			i := c.below(len(ss)+3) - 1
			holdOpen(t, s, i, p.reopen(i))
		}
		i = c.below(len(ss)+3) - 1
		holdCounts(t, s, i, p.count(i))
	}
	var sum [6]int
	for i := range len(ss) + 1 {
		holdCounts(t, s, i, p.count(i))
		for what, n := range s.Counts(i) {
			sum[what] += n
		}
	}
	return sum
}

// P12.2, P12.3: many sieves, long runs, held against the chapter's words.
func TestLongRuns(t *testing.T) {
	c := chance(1)
	var sum [6]int
	for range 400 {
		for what, n := range run(t, &c, 400) {
			sum[what] += n
		}
		if t.Failed() {
			t.FailNow()
		}
	}
	all := 0
	for what, n := range sum {
		all += n
		if n < 1000 {
			t.Errorf("of %d there are only %d", what, n)
		}
	}
	if all != 400*400 {
		t.Errorf("of %d frames %d are counted", 400*400, all)
	}
}

// plainNew is what New tells, by the chapter's words.
func plainNew(ss []sieve.Stream, gs []gates.List, ms []meter.Conf, now int) api.Errno {
	if max(len(ss), len(gs), len(ms)) > 64 {
		return api.ErrMany
	}
	within := func(x, least, most int) bool { return least <= x && x <= most }
	for _, x := range ss {
		if !within(x.Port, -1, 7) || !within(x.Vid, 1, 4094) || !within(x.Gate, -1, len(gs)-1) || !within(x.Prio, -1, 7) || !within(x.Max, 0, 1600) || !within(x.Rate, -1, len(ms)-1) {
			return api.ErrArg
		}
	}
	for _, l := range gs {
		if err := l.Check(); err != api.OK {
			return err
		}
	}
	for _, c := range ms {
		if _, err := meter.New(c, now); err != api.OK {
			return err
		}
	}
	return api.OK
}

// spoil makes one thing of a setup wrong, or another one that is right.
func (c *chance) spoil(ss []sieve.Stream, gs []gates.List, ms []meter.Conf) {
	x := c.below(12) - 3
	switch kind := c.below(3); {
	case kind == 0 && len(ss) > 0:
		s := &ss[c.below(len(ss))]
		*[...]*int{&s.Port, &s.Vid, &s.Gate, &s.Prio, &s.Max, &s.Rate}[c.below(6)] = x
	case kind == 1 && len(gs) > 0:
		l := &gs[c.below(len(gs))]
		switch c.below(4) {
		case 0:
			l.Base = x
		case 1:
			l.Cycle = x
		case 2:
			l.Slots[c.below(len(l.Slots))].Len = 50 * x
		case 3:
			for len(l.Slots) < 60+x {
				l.Slots = append(l.Slots, gates.Slot{Len: 1})
			}
		}
	case len(ms) > 0:
		m := &ms[c.below(len(ms))]
		*[...]*int{&m.Rate, &m.Burst, &m.More, &m.Beyond}[c.below(4)] = x
	}
}

// P12.1: many setups in which something is wrong, or not.
func TestNewRuns(t *testing.T) {
	c := chance(2)
	seen := map[api.Errno]int{}
	for range 20000 {
		var gs []gates.List
		var ms []meter.Conf
		var ss []sieve.Stream
		for range c.mostly(5, 63, 64, 65) {
			gs = append(gs, c.list())
		}
		for range c.mostly(5, 63, 64, 65) {
			ms = append(ms, c.conf())
		}
		for range c.mostly(5, 63, 64, 65) {
			ss = append(ss, c.stream(len(gs), len(ms)))
		}
		for range c.below(4) {
			c.spoil(ss, gs, ms)
		}
		now := c.mostly(1000, -1, maxTime, maxTime+1, most, least)
		want := plainNew(ss, gs, ms, now)
		seen[want]++
		holdNew(t, ss, gs, ms, now, want)
	}
	for _, err := range []api.Errno{api.OK, api.ErrArg, api.ErrSlot, api.ErrMany} {
		if seen[err] < 100 {
			t.Errorf("of %d there are only %d", err, seen[err])
		}
	}
}
