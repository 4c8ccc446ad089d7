package peer_test

import (
	"math/big"
	"testing"

	"sandglass/api"
	"sandglass/peer"
	"sandglass/ptp"
	"sandglass/rate"
	"sandglass/stamp"
)

// chance is a row of numbers that looks like one at random, always the same.
type chance uint64

func (c *chance) below(n int) int {
	*c = *c*6364136223846793005 + 1442695040888963407
	return int(*c>>20) % n
}

// one is one of some numbers.
func (c *chance) one(xs ...int) int { return xs[c.below(len(xs))] }

func num(x int) *big.Int { return big.NewInt(int64(x)) }

// near is a by b, to the nearest, of two as near to the even one; b is above 0.
func near(a, b *big.Int) *big.Int {
	down, left := new(big.Int).DivMod(a, b, new(big.Int))
	half := left.Add(left, left).Cmp(b)
	if half > 0 || half == 0 && down.Bit(0) == 1 {
		down.Add(down, num(1))
	}
	return down
}

// plain is a Peer by the chapter's words: it keeps all that was answered since nothing was known.
type plain struct {
	c          peer.Conf
	seq        int
	open       bool
	t1, t2, t4 []stamp.Stamp // of one, or of none
	answers    []times
	rate       rate.Rate
	delay      stamp.Stamp
	failed     int
}

func (p *plain) forget() { p.answers, p.rate, p.delay = nil, one, 0 }

func (p *plain) close() { p.open, p.t1, p.t2, p.t4 = false, nil, nil, nil }

func (p *plain) fail() {
	p.close()
	p.failed++
	if p.failed >= p.c.Lost {
		p.forget()
	}
}

func (p *plain) ask() ptp.Msg {
	if p.open {
		p.fail()
	}
	p.seq++
	if p.seq == 65536 {
		p.seq = 0
	}
	p.open = true
	return ptp.Msg{Kind: ptp.Req, Seq: p.seq, Src: p.c.Id, Port: p.c.Port}
}

func (p *plain) sent(seq int, at stamp.Stamp) {
	if p.open && p.seq == seq {
		p.t1 = []stamp.Stamp{at}
	}
}

func (p *plain) down() {
	p.close()
	p.forget()
	p.failed = 0
}

func (p *plain) able() bool { return len(p.answers) >= 2 && p.failed < p.c.Lost }

func (p *plain) in(m ptp.Msg, at stamp.Stamp) api.Errno {
	if !p.open || p.t1 == nil || m.Check() != api.OK || m.Seq != p.seq || m.To != p.c.Id || m.ToPort != p.c.Port {
		return api.ErrOrder
	}
	if m.Kind == ptp.Resp && p.t2 == nil {
		p.t2, p.t4 = []stamp.Stamp{m.Time}, []stamp.Stamp{at}
		return api.OK
	}
	if m.Kind != ptp.RespMore || p.t2 == nil {
		return api.ErrOrder
	}
	x := times{p.t1[0], p.t2[0], m.Time, p.t4[0]}
	if len(p.answers) > 0 {
		first := p.answers[max(0, len(p.answers)-p.c.Window)]
		r, delay, err := reckoned(p.c, first, x)
		if err != api.OK {
			p.fail()
			return err
		}
		p.rate, p.delay = r, delay
	}
	p.answers = append(p.answers, x)
	p.close()
	p.failed = 0
	return api.OK
}

// reckoned is the rate and the delay by the first mark and the times of the last answer, in numbers of any length.
func reckoned(c peer.Conf, first, x times) (rate.Rate, stamp.Stamp, api.Errno) {
	less := func(a, b stamp.Stamp) *big.Int { return new(big.Int).Sub(num(int(a)), num(int(b))) }
	ahead, by := less(x.t3, first.t3), less(x.t4, first.t4)
	switch {
	case !ahead.IsInt64() || !by.IsInt64():
		return 0, 0, api.ErrOver
	case ahead.Sign() < 0 || by.Sign() < 0:
		return 0, 0, api.ErrArg
	case by.Sign() == 0:
		return 0, 0, api.ErrZero
	}
	r := near(ahead.Mul(ahead, num(one)), by)
	switch {
	case !r.IsInt64():
		return 0, 0, api.ErrOver
	case r.Cmp(num(one-1<<34)) < 0 || r.Cmp(num(one+1<<34)) > 0:
		return 0, 0, api.ErrRate
	}
	whole, stay := less(x.t4, x.t1), less(x.t3, x.t2)
	if !whole.IsInt64() || !stay.IsInt64() {
		return 0, 0, api.ErrOver
	}
	back := near(new(big.Int).Mul(num(one), num(one)), r)
	stay = near(stay.Mul(stay, back), num(one))
	if !stay.IsInt64() {
		return 0, 0, api.ErrOver
	}
	both := whole.Sub(whole, stay)
	if !both.IsInt64() {
		return 0, 0, api.ErrOver
	}
	if both.Cmp(num(-int(c.Slack))) < 0 {
		return 0, 0, api.ErrLink
	}
	delay := int64(0)
	if both.Sign() > 0 {
		delay = both.Int64() / 2
	}
	if delay > int64(c.Most) {
		return 0, 0, api.ErrLink
	}
	return rate.Rate(r.Int64()), stamp.Stamp(delay), api.OK
}

// conf is a setup, most of them with a bound that is met now and then.
func (c *chance) conf() peer.Conf {
	return peer.Conf{
		Id:     c.one(0, 1, 5, mostId, c.below(mostId)),
		Port:   c.one(0, 1, 5, mostPort),
		Most:   stamp.Stamp(c.one(0, 10, 1000, 50*ns, 500*ns, mostTime)),
		Slack:  stamp.Stamp(c.one(0, 1, 20, 10*ns, mostTime)),
		Window: c.one(1, 2, 3, 8, 32, 1+c.below(32)),
		Lost:   c.one(1, 2, 3, 5, 1+c.below(20)),
	}
}

// scene is two clocks and a link, at which something is wrong now and then.
type scene struct {
	c     *chance
	conf  peer.Conf
	here  stamp.Stamp
	there stamp.Stamp
	more  int // how many parts of 2^34 the other clock comes further in One
	way   stamp.Stamp
}

// goes lets some time go by.
func (s *scene) goes(d int) {
	s.here += stamp.Stamp(d)
	s.there += stamp.Stamp(d + d>>20*s.more>>14)
}

// next is the times of the next question and its answer.
func (s *scene) next() times {
	c := s.c
	s.goes(c.one(0, 1, 1000, 1<<20, 1<<30, 1<<33, 1<<36))
	if c.below(8) == 0 {
		s.more = c.one(0, 0, c.below(1<<14)-1<<13, 1<<14, 1<<14+1, -1<<14, -1<<14-1)
	}
	if c.below(8) == 0 {
		s.way = stamp.Stamp(c.one(0, 1, int(s.conf.Most), int(s.conf.Most)+1, c.below(1000), c.below(100*ns)))
	}
	var x times
	x.t1 = s.here
	s.goes(int(s.way))
	x.t2 = s.there
	s.goes(c.one(0, 1, 100, 1000*ns))
	x.t3 = s.there
	s.goes(int(s.way))
	x.t4 = s.here
	if c.below(6) > 0 {
		return x
	}
	// One of them is told otherwise.
	list := [...]*stamp.Stamp{&x.t1, &x.t2, &x.t3, &x.t4}
	at := list[c.below(4)]
	*at += stamp.Stamp(c.one(-1, 1, 2, -2, c.below(40)-20, 2*int(s.conf.Slack), -2*int(s.conf.Slack), 1<<40, -1<<40))
	if c.below(20) == 0 {
		*at = stamp.Stamp(c.one(most, least, 0, -1, 1<<62, -1<<62))
	}
	return x
}

// spoil is a message of which something is another one, or isn't right.
func (c *chance) spoil(m ptp.Msg) ptp.Msg {
	switch c.below(8) {
	case 0:
		m.Kind = c.one(ptp.Req, ptp.Sync, ptp.Resp, ptp.Follow, ptp.RespMore, ptp.Announce, -1, 1)
	case 1:
		m.Seq += c.one(-1, 1, 65536, -65536)
	case 2:
		m.To += c.one(-1, 1)
	case 3:
		m.ToPort += c.one(-1, 1)
	case 4:
		m.Domain = c.one(-1, 128, 5)
	case 5:
		m.Rate = 1
	case 6:
		m.Src = c.one(-1, mostId+1, 0)
	case 7:
		m.Corr = stamp.Stamp(c.one(1, most, least))
	}
	return m
}

// count is how often each error was in runs, and how often time could be told and couldn't.
type count struct {
	errs map[api.Errno]int
	able [2]int
}

// hold holds a Peer against a plain one.
func (k *count) hold(t *testing.T, p *peer.Peer, q *plain) {
	t.Helper()
	if p.Rate() != q.rate || p.Delay() != q.delay || p.Able() != q.able() {
		t.Fatalf("%v: Rate is %d, Delay %d, Able %v, not %d, %d, %v", q.c, int(p.Rate()), int(p.Delay()), p.Able(), int(q.rate), int(q.delay), q.able())
	}
	if q.able() {
		k.able[1]++
	} else {
		k.able[0]++
	}
}

// in hands a message to both.
func (k *count) in(t *testing.T, p *peer.Peer, q *plain, m ptp.Msg, at stamp.Stamp) {
	t.Helper()
	err, want := p.In(m, at), q.in(m, at)
	if err != want {
		t.Fatalf("%v: In(%v, %d) is %d, not %d", q.c, m, int(at), err, want)
	}
	k.errs[err]++
	k.hold(t, p, q)
}

// run asks often, and answers mostly as it must be, now and then otherwise, or not at all.
func run(t *testing.T, c *chance, steps int, k *count) {
	t.Helper()
	conf := c.conf()
	p, q := newPeer(t, conf), &plain{c: conf, rate: one}
	s := scene{c: c, conf: conf, here: stamp.Stamp(c.one(0, -1<<50, 1<<50)), there: stamp.Stamp(c.below(1 << 60))}
	k.hold(t, p, q)
	for range steps {
		got, ok := p.Ask()
		if want := q.ask(); !ok || !same(got, want) {
			t.Fatalf("%v: Ask is %v, %v, not %v", conf, got, ok, want)
		}
		k.hold(t, p, q)
		x := s.next()
		calls := []func(){
			func() { p.Sent(got.Seq, x.t1); q.sent(got.Seq, x.t1) },
			func() { k.in(t, p, q, resp(conf, got.Seq, x.t2), x.t4) },
			func() { k.in(t, p, q, respMore(conf, got.Seq, x.t3), s.here) },
		}
		odd := []func(){
			func() { p.Sent(got.Seq+1, x.t1); q.sent(got.Seq+1, x.t1) },
			func() { p.Sent(got.Seq, x.t1+1); q.sent(got.Seq, x.t1+1) },
			func() { k.in(t, p, q, c.spoil(resp(conf, got.Seq, x.t2)), x.t4) },
			func() { k.in(t, p, q, c.spoil(respMore(conf, got.Seq, x.t3)), x.t4) },
			func() { k.in(t, p, q, resp(conf, got.Seq, x.t2-1), x.t4+1) },
			func() { k.in(t, p, q, respMore(conf, got.Seq, x.t3+1), x.t4) },
			func() {
				if c.below(20) == 0 {
					p.Down()
					q.down()
				}
			},
		}
		for _, call := range calls {
			for c.below(8) == 0 {
				odd[c.below(len(odd))]()
				k.hold(t, p, q)
			}
			if c.below(30) > 0 {
				call()
			}
			k.hold(t, p, q)
		}
	}
}

// P17.2, P17.3, P17.4: many setups, long runs, held against the chapter's words.
func TestLongRuns(t *testing.T) {
	c := chance(1)
	k := count{errs: map[api.Errno]int{}}
	for range 400 {
		run(t, &c, 250, &k)
	}
	for _, err := range []api.Errno{api.OK, api.ErrOrder, api.ErrArg, api.ErrZero, api.ErrOver, api.ErrRate, api.ErrLink} {
		if k.errs[err] < 100 {
			t.Errorf("of %d there are only %d", err, k.errs[err])
		}
	}
	if k.able[0] < 10000 || k.able[1] < 10000 {
		t.Error("it could be told, or couldn't, too seldom:", k.able)
	}
}

// floor is a fraction rounded down, as a stamp.
func floor(x *big.Rat) stamp.Stamp {
	return stamp.Stamp(new(big.Int).Div(x.Num(), x.Denom()).Int64())
}

// isNear tells whether two numbers are no further from each other than a third one.
func isNear(a, b, far *big.Rat) bool {
	d := new(big.Rat).Sub(a, b)
	return d.Abs(d).Cmp(far) <= 0
}

// whole is a whole number as a fraction.
func whole(x int) *big.Rat { return new(big.Rat).SetInt64(int64(x)) }

// P17.5: two clocks that run evenly: the rate is right but for one part in how far it is reckoned, the delay to a nanosecond.
func TestEven(t *testing.T) {
	c := chance(3)
	for round := range 300 {
		conf := peer.Conf{Id: 1, Port: 2, Most: mostTime, Slack: 4 * ns, Window: 1 + round%32, Lost: 1}
		p := newPeer(t, conf)
		// The own clock tells true time; the other one runs by a fraction of it, and was set somehow.
		r := big.NewRat(int64(1000000+c.one(0, 1, -1, 100, -100, 200, 5000, -5000, c.below(15000)-7500)), 1000000)
		set := whole(c.below(1 << 60))
		there := func(at stamp.Stamp) stamp.Stamp {
			x := new(big.Rat).Mul(r, whole(int(at)))
			return floor(x.Add(x, set))
		}
		way := stamp.Stamp(c.one(0, 1, ns, 50*ns, 500*ns, c.below(1000000*ns)))
		now := stamp.Stamp(c.below(1 << 56))
		var t4s []stamp.Stamp
		for i := range 80 {
			stay := stamp.Stamp(c.one(0, 1, 1000*ns, c.below(10000000*ns)))
			t1 := now
			t2, t3, t4 := t1+way, t1+way+stay, t1+way+stay+way
			talk(t, p, conf, times{t1, there(t2), there(t3), t4}, api.OK)
			t4s = append(t4s, t4)
			now = t4 + stamp.Stamp(c.one(1000000, 125000000, c.below(100000000))*ns)
			if i == 0 {
				continue
			}
			if !p.Able() {
				t.Fatal("it can't be told over the link")
			}
			far := int(t4 - t4s[max(0, i-conf.Window)])
			// One part in so far, and what a rate can't tell more exactly.
			part := new(big.Rat).Add(big.NewRat(1, int64(far)), big.NewRat(1, 2*one))
			if !isNear(big.NewRat(int64(p.Rate()), one), r, part) {
				t.Fatalf("%v: by the rate %v over %d Rate is %d", conf, r, far, int(p.Rate()))
			}
			if !isNear(whole(int(p.Delay())), whole(int(way)), whole(ns)) {
				t.Fatalf("%v: by the rate %v a link that takes %d has Delay %d", conf, r, int(way), int(p.Delay()))
			}
		}
	}
}
