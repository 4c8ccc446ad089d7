package sync_test

import (
	"math/big"
	"testing"

	"sandglass/api"
	"sandglass/peer"
	"sandglass/ptp"
	"sandglass/rate"
	"sandglass/stamp"
	"sandglass/sync"
)

// chance is a row of numbers that looks like one at random, always the same.
type chance uint64

func (c *chance) below(n int) int {
	*c = *c*6364136223846793005 + 1442695040888963407
	return int(*c>>20) % n
}

// one is one of some numbers.
func (c *chance) one(xs ...int) int { return xs[c.below(len(xs))] }

func num(x int) *big.Int { return big.NewInt(int64(x)) }

// near is a product by 2^41, to the nearest, of two as near to the even one.
func near(a, b *big.Int) *big.Int {
	down, left := new(big.Int).DivMod(new(big.Int).Mul(a, b), num(one), new(big.Int))
	half := left.Cmp(num(one / 2))
	if half > 0 || half == 0 && down.Bit(0) == 1 {
		down.Add(down, num(1))
	}
	return down
}

// point is what was told once.
type point struct{ here, there, at stamp.Stamp }

// open is a Sync whose Follow hasn't come.
type open struct {
	seq, src int
	at       stamp.Stamp
}

// plain is a clock by the chapter's words, in numbers of any length.
type plain struct {
	domain int
	own    bool
	points []point // what was told last, or none
	kept   rate.Rate
	opens  []open // one, or none
}

func (p *plain) rate() rate.Rate {
	if p.own {
		return one
	}
	return p.kept
}

func (p *plain) at(now stamp.Stamp) (stamp.Stamp, bool) {
	if len(p.points) == 0 {
		if p.own {
			return now, true
		}
		return 0, false
	}
	x := p.points[0]
	gone := new(big.Int).Sub(num(int(now)), num(int(x.here)))
	far := near(gone, num(int(p.rate())))
	sum := new(big.Int).Add(far, num(int(x.there)))
	if !gone.IsInt64() || !far.IsInt64() || !sum.IsInt64() {
		return 0, false
	}
	return stamp.Stamp(sum.Int64()), true
}

func (p *plain) tell(here, there stamp.Stamp) { p.points = []point{{here, there, here}} }

func (p *plain) turn(own bool, now stamp.Stamp) {
	if own == p.own {
		return
	}
	if x, ok := p.at(now); ok {
		r := p.rate()
		p.tell(now, x)
		p.kept = r
	}
	p.own = own
	p.opens = nil
}

func (p *plain) sync(m ptp.Msg, at stamp.Stamp) api.Errno {
	if p.own || m.Check() != api.OK || m.Kind != ptp.Sync || m.Domain != p.domain {
		return api.ErrOrder
	}
	p.opens = []open{{m.Seq, m.Src, at}}
	return api.OK
}

func (p *plain) follow(m ptp.Msg, delay stamp.Stamp, ratio rate.Rate) api.Errno {
	if p.own || m.Check() != api.OK || m.Kind != ptp.Follow || m.Domain != p.domain || len(p.opens) == 0 {
		return api.ErrOrder
	}
	x := p.opens[0]
	if m.Seq != x.seq || m.Src != x.src {
		return api.ErrOrder
	}
	p.opens = nil
	r := near(num(int(m.Rate)), num(int(ratio)))
	if !r.IsInt64() {
		return api.ErrOver
	}
	if r.Int64() < one-1<<34 || r.Int64() > one+1<<34 {
		return api.ErrRate
	}
	sent := new(big.Int).Add(num(int(m.Time)), num(int(m.Corr)))
	way := near(num(int(delay)), r)
	sum := new(big.Int).Add(sent, way)
	if !sent.IsInt64() || !way.IsInt64() || !sum.IsInt64() {
		return api.ErrOver
	}
	p.tell(x.at, stamp.Stamp(sum.Int64()))
	p.kept = rate.Rate(r.Int64())
	return api.OK
}

func (p *plain) follows(seq, src, port int, at stamp.Stamp) (ptp.Msg, bool) {
	x, ok := p.at(at)
	m := ptp.Msg{Kind: ptp.Follow, Domain: p.domain, Seq: seq, Src: src, Port: port, Time: x, Rate: p.rate()}
	if ok && !p.own {
		m.Time = p.points[0].there
		m.Corr = x - m.Time
	}
	if !ok || m.Check() != api.OK {
		return ptp.Msg{}, false
	}
	return m, true
}

func (p *plain) fresh(now, far stamp.Stamp) bool {
	if p.own || len(p.points) == 0 {
		return p.own
	}
	gone := new(big.Int).Sub(num(int(now)), num(int(p.points[0].at)))
	return gone.IsInt64() && gone.Int64() <= int64(far)
}

// time is mostly one near some others, else one at an end.
func (c *chance) time(near stamp.Stamp) stamp.Stamp {
	switch c.below(30) {
	case 0:
		return stamp.Stamp(c.one(most, least, most-1, least+1, 0, 1<<62, -1<<62, c.below(1<<62), -c.below(1<<62)))
	case 1:
		return near - stamp.Stamp(c.below(1000))
	}
	return near + stamp.Stamp(c.below(1<<c.below(40)))
}

// ratio is mostly one that is right.
func (c *chance) ratio() rate.Rate {
	if c.below(20) == 0 {
		return rate.Rate(c.one(0, 1, -one, 2*one, one/2, most, least, one+1<<34+1, one-1<<34-1))
	}
	return one + rate.Rate(c.one(0, 1, -1, 1<<34, -1<<34, c.below(1<<34)-1<<33))
}

// msg is mostly a right one of the domain, of few numbers, so that many fit each other.
func (c *chance) msg(kind, domain int, near stamp.Stamp) ptp.Msg {
	m := ptp.Msg{Kind: kind, Domain: domain, Seq: c.below(5) / 4, Src: c.below(5) / 4, Port: c.below(3)}
	if kind == ptp.Follow {
		m.Time, m.Corr, m.Rate = c.time(near), c.time(0), c.ratio()
	}
	switch c.below(40) {
	case 0:
		m.Kind = c.one(ptp.Req, ptp.Sync, ptp.Resp, ptp.Follow, ptp.RespMore, ptp.Announce, 1, -1)
	case 1:
		m.Domain = c.one(0, 1, 2, 128, -1)
	case 2:
		m.To = 1
	case 3:
		m.Port = 65536
	}
	return m
}

// count is how often each error was in runs, and how often something was so and wasn't.
type count struct {
	errs         map[api.Errno]int
	told, fresh  [2]int
	tells, turns [2]int
}

func is(x bool) int {
	if x {
		return 1
	}
	return 0
}

// hold holds what a clock tells against what a plain one does.
func (k *count) hold(t *testing.T, c *chance, p *sync.Clock, q *plain, near stamp.Stamp) {
	t.Helper()
	now, far := c.time(near), c.time(0)
	got, ok := p.At(now)
	if want, known := q.at(now); got != want || ok != known {
		t.Fatalf("At(%d) is %d, %v, not %d, %v", int(now), int(got), ok, int(want), known)
	}
	k.told[is(ok)]++
	if p.Rate() != q.rate() {
		t.Fatalf("Rate is %d, not %d", int(p.Rate()), int(q.rate()))
	}
	if len(q.points) > 0 && c.below(4) == 0 {
		far = now - q.points[0].at - stamp.Stamp(c.below(3)) + 1
	}
	if p.Fresh(now, far) != q.fresh(now, far) {
		t.Fatalf("Fresh(%d, %d) is %v", int(now), int(far), p.Fresh(now, far))
	}
	k.fresh[is(q.fresh(now, far))]++
	seq, src, port := c.below(65536), c.below(mostId), c.below(65536)
	if c.below(20) == 0 {
		at := [...]*int{&seq, &src, &port}
		*at[c.below(3)] = c.one(-1, 65536, mostId, mostId+1)
	}
	m, ok := p.Tell(seq, src, port, now)
	if want, tells := q.follows(seq, src, port, now); !same(m, want) || ok != tells {
		t.Fatalf("Tell(%d, %d, %d, %d) is %v, %v, not %v, %v", seq, src, port, int(now), m, ok, want, tells)
	}
	k.tells[is(ok)]++
}

// run calls a clock and a plain one, and holds them against each other.
func run(t *testing.T, c *chance, steps int, k *count) {
	t.Helper()
	domain := c.one(0, 1, 2, 127)
	p, q := newClock(t, domain), &plain{domain: domain, kept: one}
	now, there := stamp.Stamp(c.below(1<<50)), stamp.Stamp(c.below(1<<50))
	k.hold(t, c, p, q, now)
	for range steps {
		now += stamp.Stamp(c.below(1 << c.below(36)))
		at := c.time(now)
		var got, want api.Errno
		switch c.below(16) {
		case 0, 1:
			own := c.below(3) == 0
			k.turns[is(own != q.own)]++
			p.Own(own, at)
			q.turn(own, at)
		case 2:
			x := c.time(there)
			p.Hold(at, x)
			q.tell(at, x)
		case 3, 4, 5, 6, 7, 8:
			m := c.msg(ptp.Sync, domain, there)
			got, want = p.Sync(m, at), q.sync(m, at)
			k.errs[got]++
		default:
			m, delay, ratio := c.msg(ptp.Follow, domain, there), c.time(0), c.ratio()
			got, want = p.Follow(m, delay, ratio), q.follow(m, delay, ratio)
			k.errs[got]++
		}
		if got != want {
			t.Fatalf("a message's error is %d, not %d", got, want)
		}
		k.hold(t, c, p, q, now)
	}
}

// P18.1 to P18.4: many clocks, long runs, held against the chapter's words.
func TestLongRuns(t *testing.T) {
	c := chance(1)
	k := count{errs: map[api.Errno]int{}}
	for range 300 {
		run(t, &c, 400, &k)
	}
	for _, err := range []api.Errno{api.OK, api.ErrOrder, api.ErrOver, api.ErrRate} {
		if k.errs[err] < 200 {
			t.Errorf("of %d there are only %d", err, k.errs[err])
		}
	}
	for _, x := range [][2]int{k.told, k.fresh, k.tells, k.turns} {
		if x[0] < 1000 || x[1] < 1000 {
			t.Errorf("of something there is too little: %+v", k)
		}
	}
}

// node is a clock that runs evenly: at which rate by true time, what it tells at true time 0.
type node struct {
	rate *big.Rat
	set  *big.Rat
}

// whole is a whole number as a fraction.
func whole(x int) *big.Rat { return new(big.Rat).SetInt64(int64(x)) }

// tells is what a node's clock tells at a true time, exactly.
func (n node) tells(at *big.Rat) *big.Rat {
	x := new(big.Rat).Mul(n.rate, at)
	return x.Add(x, n.set)
}

// stamps is that rounded down, as a stamp.
func (n node) stamps(at int) stamp.Stamp {
	x := n.tells(whole(at))
	return stamp.Stamp(new(big.Int).Div(x.Num(), x.Denom()).Int64())
}

// by is how fast another node's clock runs by this one, to the nearest rate.
func (n node) by(other node) rate.Rate {
	x := new(big.Rat).Quo(other.rate, n.rate)
	x.Mul(x, whole(2*one)).Add(x, whole(1))
	return rate.Rate(new(big.Int).Div(x.Num(), x.Denom().Mul(x.Denom(), num(2))).Int64())
}

// holdTime holds a clock against the domain's time at a true time: but for so many parts.
func holdTime(t *testing.T, p *sync.Clock, n, root node, at int, far *big.Rat) {
	t.Helper()
	got, ok := p.At(n.stamps(at))
	d := new(big.Rat).Sub(whole(int(got)), root.tells(whole(at)))
	if !ok || d.Abs(d).Cmp(far) > 0 {
		x, _ := d.Float64()
		t.Fatalf("At is %d, %v, which is %f parts off", int(got), ok, x)
	}
}

// P18.5: a row of clocks, each told by the one ahead, over links whose delays and rates are exact: the domain's time, but for some parts of 2^16 of a nanosecond for each, and what the rates are off since.
func TestRow(t *testing.T) {
	c := chance(5)
	for range 60 {
		nodes := make([]node, 8)
		clocks := make([]*sync.Clock, len(nodes))
		for i := range nodes {
			nodes[i] = node{big.NewRat(int64(1000000+c.one(0, 100, -100, c.below(1000)-500)), 1000000), whole(c.below(1 << 58))}
			clocks[i] = newClock(t, 1)
		}
		root := nodes[0]
		clocks[0].Own(true, root.stamps(0))
		now := 0
		for seq := range 20 {
			far := whole(1)
			for i := 1; i < len(nodes); i++ {
				way := c.one(0, 1000*ns, c.below(1000000*ns))
				now += c.below(2000000 * ns)
				holdSync(t, clocks[i], mark(1, seq, i), nodes[i].stamps(now+way), api.OK)
				m, ok := clocks[i-1].Tell(seq, i, 2, nodes[i-1].stamps(now))
				if !ok {
					t.Fatal("a clock that was told tells nothing")
				}
				now += way
				delay := new(big.Rat).Mul(nodes[i].rate, whole(way))
				holdFollow(t, clocks[i], m, stamp.Stamp(new(big.Int).Div(delay.Num(), delay.Denom()).Int64()), nodes[i].by(nodes[i-1]), api.OK)
				// Each of the marks and products is off by no more than a part; the rates by one in 2^41 for each clock.
				far.Add(far, whole(5))
				later := c.below(1000000000 * ns)
				off := new(big.Rat).Mul(whole(later+3000000*ns), big.NewRat(int64(2*i), one))
				holdTime(t, clocks[i], nodes[i], root, now+later, off.Add(off, far))
				holdTime(t, clocks[i], nodes[i], root, now, far)
			}
			now += 100000000 * ns
		}
	}
}

// P18.5: links that are measured by questions and answers (layer 17): each clock is a nanosecond off at most, and what its rate is off since.
func TestRowMeasured(t *testing.T) {
	c := chance(6)
	for range 20 {
		nodes := make([]node, 6)
		clocks := make([]*sync.Clock, len(nodes))
		peers := make([]*peer.Peer, len(nodes))
		ways := make([]int, len(nodes))
		for i := range nodes {
			nodes[i] = node{big.NewRat(int64(1000000+c.below(400)-200), 1000000), whole(c.below(1 << 58))}
			clocks[i] = newClock(t, 0)
			peers[i], _ = peer.New(peer.Conf{Id: i, Port: 1, Most: 1 << 40, Slack: 1 << 27, Window: 8, Lost: 3})
			ways[i] = c.one(0, 50*ns, c.below(1000*ns))
		}
		clocks[0].Own(true, 0)
		now := 0
		for seq := range 30 {
			for i := 1; i < len(nodes); i++ {
				m, _ := peers[i].Ask()
				stay := c.below(5000000 * ns)
				peers[i].Sent(m.Seq, nodes[i].stamps(now))
				half, _ := peers[i-1].Answer(m, nodes[i-1].stamps(now+ways[i]))
				more, _ := peers[i-1].More(half, nodes[i-1].stamps(now+ways[i]+stay))
				now += 2*ways[i] + stay
				if peers[i].In(half, nodes[i].stamps(now)) != api.OK || peers[i].In(more, 0) != api.OK {
					t.Fatal("an answer is refused")
				}
			}
			for i := 1; i < len(nodes) && peers[i].Able(); i++ {
				now += c.below(1000000 * ns)
				holdSync(t, clocks[i], mark(0, seq, i-1), nodes[i].stamps(now+ways[i]), api.OK)
				m, _ := clocks[i-1].Tell(seq, i-1, 1, nodes[i-1].stamps(now))
				now += ways[i]
				holdFollow(t, clocks[i], m, peers[i].Delay(), peers[i].Rate(), api.OK)
				holdTime(t, clocks[i], nodes[i], nodes[0], now, whole(i*ns))
				later := c.below(125000000 * ns)
				holdTime(t, clocks[i], nodes[i], nodes[0], now+later, whole(i*ns))
			}
			now += 125000000 * ns
		}
	}
}
