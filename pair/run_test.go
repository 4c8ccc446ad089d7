package pair_test

import (
	"testing"

	"sandglass/api"
	"sandglass/pair"
	"sandglass/ptp"
	"sandglass/rate"
	"sandglass/stamp"
	"sandglass/sync"
)

// chance is a row of numbers that looks like one at random, always the same.
type chance uint64

func (c *chance) below(n int) int {
	*c = *c*6364136223846793005 + 1442695040888963407
	return int(*c>>20) % n
}

// one is one of some numbers.
func (c *chance) one(xs ...int) int { return xs[c.below(len(xs))] }

// plain is a pair by the chapter's words: all that was ever done to each domain's clock, done anew each time that it is asked.
type plain struct {
	most  stamp.Stamp
	done  [2][]func(c *sync.Clock)
	roots []bool // what Root said of domain 1
	picks []int  // what Pick and At told
}

func (p *plain) clock(d int) *sync.Clock {
	c := sync.New(d)
	for _, do := range p.done[d] {
		do(c)
	}
	return c
}

func (p *plain) do(d int, what func(c *sync.Clock)) { p.done[d] = append(p.done[d], what) }

func (p *plain) root(d int, on bool, now stamp.Stamp) {
	if d == 1 {
		p.roots = append(p.roots, on)
	}
	if d == 0 || d == 1 {
		p.do(d, func(c *sync.Clock) { c.Own(on, now) })
	}
}

func (p *plain) sync(m ptp.Msg, at stamp.Stamp) api.Errno {
	if m.Domain != 0 && m.Domain != 1 {
		return api.ErrOrder
	}
	err := p.clock(m.Domain).Sync(m, at)
	p.do(m.Domain, func(c *sync.Clock) { c.Sync(m, at) })
	return err
}

func (p *plain) follow(m ptp.Msg, delay stamp.Stamp, ratio rate.Rate) api.Errno {
	if m.Domain != 0 && m.Domain != 1 {
		return api.ErrOrder
	}
	err := p.clock(m.Domain).Follow(m, delay, ratio)
	p.do(m.Domain, func(c *sync.Clock) { c.Follow(m, delay, ratio) })
	return err
}

func (p *plain) fresh(d int, now stamp.Stamp) bool {
	return (d == 0 || d == 1) && p.clock(d).Fresh(now, p.most)
}

// held tells whether the second domain is held to the first one's time, and then holds it.
func (p *plain) held(now stamp.Stamp) bool {
	if len(p.roots) == 0 || !p.roots[len(p.roots)-1] || !p.fresh(0, now) {
		return false
	}
	t, ok := p.clock(0).At(now)
	if ok {
		p.do(1, func(c *sync.Clock) { c.Hold(now, t) })
	}
	return ok
}

func (p *plain) tell(d, seq, src, port int, at stamp.Stamp) (ptp.Msg, bool) {
	if d != 0 && d != 1 {
		return ptp.Msg{}, false
	}
	return p.clock(d).Tell(seq, src, port, at)
}

func (p *plain) pick(now stamp.Stamp) int {
	d := -1
	switch {
	case p.fresh(0, now):
		d = 0
	case p.fresh(1, now):
		d = 1
	case len(p.picks) > 0:
		d = p.picks[len(p.picks)-1]
	}
	p.picks = append(p.picks, d)
	return d
}

func (p *plain) at(now stamp.Stamp) (stamp.Stamp, bool) {
	if d := p.pick(now); d >= 0 {
		return p.clock(d).At(now)
	}
	return 0, false
}

// domain is mostly one of the two.
func (c *chance) domain() int {
	if c.below(12) == 0 {
		return strangers[c.below(len(strangers))]
	}
	return c.below(2)
}

// time is mostly one near some others, else one at an end.
func (c *chance) time(near stamp.Stamp) stamp.Stamp {
	switch c.below(40) {
	case 0:
		return stamp.Stamp(c.one(most, least, most-1, least+1, 0, 1<<62, -1<<62, c.below(1<<62), -c.below(1<<62)))
	case 1:
		return near - stamp.Stamp(c.below(1000))
	}
	return near + stamp.Stamp(c.below(400))
}

// msg is mostly a right one, of few numbers, so that many fit each other.
func (c *chance) msg(kind int, near stamp.Stamp) ptp.Msg {
	m := ptp.Msg{Kind: kind, Domain: c.domain(), Seq: c.below(5) / 4, Src: 9}
	if kind == ptp.Follow {
		m.Time, m.Rate = c.time(near), one+rate.Rate(c.one(0, 0, 0, 1<<34, -1<<34, 1<<34+1))
	}
	if c.below(30) == 0 {
		m.Kind = c.one(ptp.Req, ptp.Sync, ptp.Follow, ptp.Announce, -1)
	}
	return m
}

// count is how often something was so in runs: errors, picks, what was held and what wasn't.
type count struct {
	errs              map[api.Errno]int
	picks             map[int]int
	held, tells, told [2]int
	fresh             [2]int
}

func is(x bool) int {
	if x {
		return 1
	}
	return 0
}

// ask asks a pair and a plain one for something, and holds what they tell against each other.
func (k *count) ask(t *testing.T, c *chance, p *pair.Pair, q *plain, near stamp.Stamp) {
	t.Helper()
	now, d := c.time(near), c.domain()
	switch c.below(4) {
	case 0:
		seq, port := c.below(65536), c.below(65536)
		if d == 0 || d == 1 {
			k.held[is(q.held(now))]++
		}
		m, ok := p.Tell(d, seq, 8, port, now)
		if want, tells := q.tell(d, seq, 8, port, now); !same(m, want) || ok != tells {
			t.Fatalf("Tell(%d, .., %d) is %+v, %v, not %+v, %v", d, int(now), m, ok, want, tells)
		}
		k.tells[is(ok)]++
	case 1:
		k.held[is(q.held(now))]++
		got, ok := p.At(now)
		if want, told := q.at(now); got != want || ok != told {
			t.Fatalf("At(%d) is %d, %v, not %d, %v", int(now), int(got), ok, int(want), told)
		}
		k.told[is(ok)]++
	case 2:
		got, want := p.Pick(now), q.pick(now)
		if got != want {
			t.Fatalf("Pick(%d) is %d, not %d", int(now), got, want)
		}
		k.picks[got]++
	default:
		if p.Fresh(d, now) != q.fresh(d, now) {
			t.Fatalf("Fresh(%d, %d) is %v", d, int(now), p.Fresh(d, now))
		}
		k.fresh[is(p.Fresh(d, now))]++
	}
}

// run calls a pair and a plain one, and holds them against each other.
func run(t *testing.T, c *chance, steps int, k *count) {
	t.Helper()
	far := stamp.Stamp(c.one(1, 50, 300, 1000, 5000, most))
	p, q := newPair(t, far), &plain{most: far}
	now, there := stamp.Stamp(c.below(1<<50)), stamp.Stamp(c.below(1<<50))
	for range steps {
		now += stamp.Stamp(c.below(200))
		there += stamp.Stamp(c.below(200))
		at := c.time(now)
		var got, want api.Errno
		switch c.below(12) {
		case 0:
			d, on := c.domain(), c.below(2) == 0
			p.Root(d, on, at)
			q.root(d, on, at)
		case 1, 2, 3:
			m := c.msg(ptp.Sync, there)
			got, want = p.Sync(m, at), q.sync(m, at)
			k.errs[got]++
		case 4, 5, 6:
			m, delay, ratio := c.msg(ptp.Follow, there), c.time(0), one+rate.Rate(c.below(3))
			got, want = p.Follow(m, delay, ratio), q.follow(m, delay, ratio)
			k.errs[got]++
		default:
			k.ask(t, c, p, q, now)
		}
		if got != want {
			t.Fatalf("a message's error is %d, not %d", got, want)
		}
	}
}

// P21.1 to P21.3: many pairs, long runs, held against the chapter's words.
func TestLongRuns(t *testing.T) {
	c := chance(1)
	k := count{errs: map[api.Errno]int{}, picks: map[int]int{}}
	for range 2000 {
		run(t, &c, 250, &k)
	}
	for _, err := range []api.Errno{api.OK, api.ErrOrder, api.ErrOver, api.ErrRate} {
		if k.errs[err] < 50 {
			t.Errorf("of %d there are only %d", err, k.errs[err])
		}
	}
	for _, d := range []int{-1, 0, 1} {
		if k.picks[d] < 200 {
			t.Errorf("of %d there are only %d", d, k.picks[d])
		}
	}
	for _, x := range [][2]int{k.held, k.tells, k.told, k.fresh} {
		if x[0] < 1000 || x[1] < 1000 {
			t.Errorf("of something there is too little: %+v", k)
		}
	}
}
