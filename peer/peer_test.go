package peer_test

import (
	"math"
	"testing"

	"sandglass/api"
	"sandglass/peer"
	"sandglass/ptp"
	"sandglass/rate"
	"sandglass/stamp"
)

const (
	most     = math.MaxInt
	least    = math.MinInt
	ns       = 65536
	one      = 1 << 41
	mostId   = 1<<48 - 1
	mostPort = 65535
	mostTime = 1 << 40
)

// usual is a setup in which nothing is at its end.
func usual() peer.Conf {
	return peer.Conf{Id: 5, Port: 1, Most: 1000 * ns, Slack: 10 * ns, Window: 4, Lost: 3}
}

// newPeer is one that must be there.
func newPeer(t *testing.T, c peer.Conf) *peer.Peer {
	t.Helper()
	p, err := peer.New(c)
	if err != api.OK || p == nil {
		t.Fatalf("New(%v) is there: %v, %d", c, p != nil, err)
	}
	return p
}

// same tells whether two messages are one; no path and an empty one are.
func same(m, n ptp.Msg) bool {
	return m.Kind == n.Kind && m.Domain == n.Domain && m.Seq == n.Seq && m.Src == n.Src && m.Port == n.Port &&
		m.Corr == n.Corr && m.Time == n.Time && m.To == n.To && m.ToPort == n.ToPort && m.Rate == n.Rate &&
		m.Best == n.Best && m.Steps == n.Steps && len(m.Path) == 0 && len(n.Path) == 0
}

// resp is the first half of an answer to a question of a setup's Peer, by some other clock.
func resp(c peer.Conf, seq int, t2 stamp.Stamp) ptp.Msg {
	return ptp.Msg{Kind: ptp.Resp, Seq: seq, Src: 9, Port: 2, Time: t2, To: c.Id, ToPort: c.Port}
}

// respMore is the second half.
func respMore(c peer.Conf, seq int, t3 stamp.Stamp) ptp.Msg {
	return ptp.Msg{Kind: ptp.RespMore, Seq: seq, Src: 9, Port: 2, Time: t3, To: c.Id, ToPort: c.Port}
}

// ask asks, which must be so, and is the question's Seq.
func ask(t *testing.T, p *peer.Peer) int {
	t.Helper()
	m, ok := p.Ask()
	if !ok {
		t.Fatal("Ask asks nothing")
	}
	return m.Seq
}

// times are those of one question and its answer.
type times struct{ t1, t2, t3, t4 stamp.Stamp }

// later is all of them so much later.
func (x times) later(d stamp.Stamp) times {
	return times{x.t1 + d, x.t2 + d, x.t3 + d, x.t4 + d}
}

// halfway asks, and hands in the first half of the answer; the question's Seq.
func halfway(t *testing.T, p *peer.Peer, c peer.Conf, x times) int {
	t.Helper()
	seq := ask(t, p)
	p.Sent(seq, x.t1)
	holdIn(t, p, resp(c, seq, x.t2), x.t4, api.OK)
	return seq
}

// talk asks, and hands in the answer, whose second half must be told so.
func talk(t *testing.T, p *peer.Peer, c peer.Conf, x times, want api.Errno) {
	t.Helper()
	seq := halfway(t, p, c, x)
	if err := p.In(respMore(c, seq, x.t3), most); err != want {
		t.Errorf("by the times %v the second half is %d, not %d", x, err, want)
	}
}

// holdIn holds an In against its error.
func holdIn(t *testing.T, p *peer.Peer, m ptp.Msg, at stamp.Stamp, want api.Errno) {
	t.Helper()
	if err := p.In(m, at); err != want {
		t.Errorf("In(%v, %d) is %d, not %d", m, int(at), err, want)
	}
}

// holdKnown holds what a Peer knows, twice, against what it must.
func holdKnown(t *testing.T, p *peer.Peer, r rate.Rate, delay stamp.Stamp, able bool) {
	t.Helper()
	for range 2 {
		if p.Rate() != r || p.Delay() != delay || p.Able() != able {
			t.Errorf("Rate is %d, Delay %d, Able %v, not %d, %d, %v", int(p.Rate()), int(p.Delay()), p.Able(), int(r), int(delay), able)
		}
	}
}

// field is a number of a Conf, the least and the greatest that is right, and how it is set.
type field struct {
	name      string
	low, high int
	set       func(c *peer.Conf, x int)
}

func fields() []field {
	return []field{
		{"Id", 0, mostId, func(c *peer.Conf, x int) { c.Id = x }},
		{"Port", 0, mostPort, func(c *peer.Conf, x int) { c.Port = x }},
		{"Most", 0, mostTime, func(c *peer.Conf, x int) { c.Most = stamp.Stamp(x) }},
		{"Slack", 0, mostTime, func(c *peer.Conf, x int) { c.Slack = stamp.Stamp(x) }},
		{"Window", 1, 32, func(c *peer.Conf, x int) { c.Window = x }},
		{"Lost", 1, 100, func(c *peer.Conf, x int) { c.Lost = x }},
	}
}

func (f field) right() []int {
	return []int{f.low, f.low + 1, (f.low + f.high) / 2, f.high - 1, f.high}
}

func (f field) wrong() []int {
	return []int{f.low - 1, f.low - 2, f.high + 1, f.high + 2, 2*f.high + 2, -f.high - 1, most, least}
}

// holdNew holds Check and New of a setup against their error.
func holdNew(t *testing.T, c peer.Conf, want api.Errno) {
	t.Helper()
	if err := c.Check(); err != want {
		t.Errorf("Check of %v is %d, not %d", c, err, want)
	}
	p, err := peer.New(c)
	if err != want || (p != nil) != (want == api.OK) {
		t.Errorf("New(%v) is there: %v, %d, not %d", c, p != nil, err, want)
	}
	if want == api.OK {
		holdKnown(t, p, one, 0, false)
	}
}

// P17.1: each number at its ends and beyond them.
func TestCheck(t *testing.T) {
	holdNew(t, usual(), api.OK)
	holdNew(t, peer.Conf{Window: 1, Lost: 1}, api.OK)
	holdNew(t, peer.Conf{Id: mostId, Port: mostPort, Most: mostTime, Slack: mostTime, Window: 32, Lost: 100}, api.OK)
	holdNew(t, peer.Conf{}, api.ErrArg)
	for _, f := range fields() {
		for _, x := range f.right() {
			c := usual()
			f.set(&c, x)
			holdNew(t, c, api.OK)
		}
		for _, x := range f.wrong() {
			c := usual()
			f.set(&c, x)
			holdNew(t, c, api.ErrArg)
		}
	}
}

// P17.1: more than one at once.
func TestCheckSeveral(t *testing.T) {
	for i, f := range fields() {
		for j, g := range fields() {
			if i == j {
				continue
			}
			for _, x := range f.wrong() {
				for _, y := range append(g.wrong(), g.right()...) {
					c := usual()
					f.set(&c, x)
					g.set(&c, y)
					holdNew(t, c, api.ErrArg)
				}
			}
		}
	}
	low, high := peer.Conf{Id: -1, Port: -1, Most: -1, Slack: -1}, peer.Conf{}
	for _, f := range fields() {
		f.set(&high, f.high+1)
	}
	holdNew(t, low, api.ErrArg)
	holdNew(t, high, api.ErrArg)
}

// P17.1: a nil Peer.
func TestNil(t *testing.T) {
	var p *peer.Peer
	p.Down()
	p.Sent(0, 0)
	p.Sent(1, 5)
	if m, ok := p.Ask(); ok || !same(m, ptp.Msg{}) {
		t.Errorf("Ask is %v, %v", m, ok)
	}
	if m, ok := p.Answer(ptp.Msg{Kind: ptp.Req}, 5); ok || !same(m, ptp.Msg{}) {
		t.Errorf("Answer is %v, %v", m, ok)
	}
	if m, ok := p.More(ptp.Msg{Kind: ptp.Resp}, 5); ok || !same(m, ptp.Msg{}) {
		t.Errorf("More is %v, %v", m, ok)
	}
	for _, m := range []ptp.Msg{{}, {Kind: ptp.Resp}, {Kind: ptp.RespMore}, {Kind: ptp.Req}, {Kind: -1}} {
		holdIn(t, p, m, 0, api.ErrOrder)
		holdIn(t, p, m, most, api.ErrOrder)
	}
	holdKnown(t, p, one, 0, false)
}

// A Peer that New didn't make: no call panics.
func TestNotMade(t *testing.T) {
	var p peer.Peer
	for range 5 {
		m, ok := p.Ask()
		if !ok {
			t.Error("it asks nothing")
		}
		p.Sent(m.Seq, 1)
		p.In(ptp.Msg{Kind: ptp.Resp, Seq: m.Seq, Time: 2}, 4)
		p.In(ptp.Msg{Kind: ptp.RespMore, Seq: m.Seq, Time: 3}, 5)
		p.Answer(ptp.Msg{Kind: ptp.Req}, 5)
		p.More(ptp.Msg{Kind: ptp.Resp}, 5)
		holdKnown(t, &p, one, 0, false)
	}
	p.Down()
}

// P17.2: the questions, by setups at their ends, whether they are answered, fail, or stay open.
func TestAsk(t *testing.T) {
	for _, c := range []peer.Conf{usual(), {Window: 1, Lost: 1}, {Id: mostId, Port: mostPort, Window: 32, Lost: 100}, {Id: 7, Port: 0, Window: 2, Lost: 2}} {
		p := newPeer(t, c)
		for i := 1; i <= 50; i++ {
			m, ok := p.Ask()
			if want := (ptp.Msg{Kind: ptp.Req, Seq: i, Src: c.Id, Port: c.Port}); !ok || !same(m, want) || m.Check() != api.OK {
				t.Errorf("question %d of %v is %v, %v", i, c, m, ok)
			}
			if i%3 > 0 {
				p.Sent(i, 1000)
				holdIn(t, p, resp(c, i, 5000), 1000, api.OK)
			}
			if i%3 > 1 {
				p.In(respMore(c, i, 5000), 0)
			}
			if i%10 == 0 {
				p.Down()
			}
		}
	}
}

// P17.2: behind 65535 comes 0, and round again.
func TestAskRound(t *testing.T) {
	c := usual()
	p := newPeer(t, c)
	for i := 1; i <= 2*65536+5; i++ {
		if m, ok := p.Ask(); !ok || !same(m, ptp.Msg{Kind: ptp.Req, Seq: i % 65536, Src: 5, Port: 1}) {
			t.Fatalf("question %d is %v, %v", i, m, ok)
		}
	}
	for range 65536 - 8 {
		ask(t, p)
	}
	// The questions with the last numbers and the first ones are answered as others are.
	x := times{1000 * ns, 5000 * ns, 6000 * ns, 2400 * ns}
	for i := range 10 {
		m, _ := p.Ask()
		if want := (65536 - 2 + i) % 65536; m.Seq != want {
			t.Fatalf("a question's Seq is %d, not %d", m.Seq, want)
		}
		p.Sent(m.Seq, x.t1)
		holdIn(t, p, resp(c, m.Seq, x.t2), x.t4, api.OK)
		holdIn(t, p, respMore(c, m.Seq, x.t3), 0, api.OK)
		x = x.later(10000 * ns)
	}
	holdKnown(t, p, one, 200*ns, true)
}

// P17.2: Sent of no open question, and of another Seq, is nothing.
func TestSentOfOthers(t *testing.T) {
	c := usual()
	p := newPeer(t, c)
	p.Sent(0, 1000)
	p.Sent(1, 1000)
	holdIn(t, p, resp(c, 0, 5000), 1000, api.ErrOrder)
	seq := ask(t, p)
	holdIn(t, p, resp(c, seq, 5000), 1000, api.ErrOrder)
	for _, other := range []int{seq - 1, seq + 1, seq + 65536, seq - 65536, -seq, most, least} {
		p.Sent(other, 1000)
		holdIn(t, p, resp(c, seq, 5000), 1000, api.ErrOrder)
	}
	p.Sent(seq, 1000)
	holdIn(t, p, resp(c, seq, 5000), 1000, api.OK)
	// The next question's t1 isn't known by that of the one ahead.
	seq = ask(t, p)
	p.Sent(seq-1, 1000)
	holdIn(t, p, resp(c, seq, 5000), 1000, api.ErrOrder)
	holdIn(t, p, resp(c, seq-1, 5000), 1000, api.ErrOrder)
}

// P17.2: Sent twice: t1 is what was said last, also between the answer's halves; what others say is nothing.
func TestSentTwice(t *testing.T) {
	c := usual()
	p := newPeer(t, c)
	x := times{1000 * ns, 5000 * ns, 6000 * ns, 2400 * ns}
	talk(t, p, c, x, api.OK)
	x = x.later(10000 * ns)
	seq := ask(t, p)
	p.Sent(seq, x.t1-900*ns)
	p.Sent(seq, x.t1)
	p.Sent(seq+1, x.t1-500*ns)
	holdIn(t, p, resp(c, seq, x.t2), x.t4, api.OK)
	holdIn(t, p, respMore(c, seq, x.t3), 0, api.OK)
	holdKnown(t, p, one, 200*ns, true)
	x = x.later(10000 * ns)
	seq = halfway(t, p, c, x)
	p.Sent(seq, x.t1-200*ns)
	p.Sent(seq-1, x.t1-700*ns)
	holdIn(t, p, resp(c, seq, x.t2), x.t4, api.ErrOrder)
	holdIn(t, p, respMore(c, seq, x.t3), 0, api.OK)
	holdKnown(t, p, one, 300*ns, true)
	// A question that is closed isn't open again by it.
	p.Sent(seq, x.t1)
	holdIn(t, p, resp(c, seq, x.t2), x.t4, api.ErrOrder)
	holdIn(t, p, respMore(c, seq, x.t3), 0, api.ErrOrder)
	holdKnown(t, p, one, 300*ns, true)
}

// ends are setups with the Ids and Ports at their ends.
func ends() []peer.Conf {
	list := []peer.Conf{usual()}
	for _, id := range []int{0, mostId} {
		for _, port := range []int{0, mostPort} {
			c := usual()
			c.Id, c.Port = id, port
			list = append(list, c)
		}
	}
	return list
}

// P17.2: the first half of an answer to each question that is right.
func TestAnswer(t *testing.T) {
	for _, c := range ends() {
		p := newPeer(t, c)
		for _, m := range []ptp.Msg{
			{Kind: ptp.Req},
			{Kind: ptp.Req, Seq: 7, Src: 3, Port: 4},
			{Kind: ptp.Req, Seq: 65535, Src: mostId, Port: mostPort},
			{Kind: ptp.Req, Domain: 127, Seq: 8, Src: 30, Port: 40, Corr: 77},
			{Kind: ptp.Req, Seq: 8, Src: c.Id, Port: c.Port, Path: []int{}},
		} {
			for _, at := range []stamp.Stamp{0, 1, -1, 55 * ns, most, least} {
				want := ptp.Msg{Kind: ptp.Resp, Seq: m.Seq, Src: c.Id, Port: c.Port, Time: at, To: m.Src, ToPort: m.Port}
				if got, ok := p.Answer(m, at); !ok || !same(got, want) || got.Check() != api.OK {
					t.Errorf("Answer(%v, %d) of %v is %v, %v", m, int(at), c, got, ok)
				}
			}
		}
	}
}

// P17.2: the second half to each first one that is right, whosever it is.
func TestMore(t *testing.T) {
	for _, c := range ends() {
		p := newPeer(t, c)
		for _, m := range []ptp.Msg{
			{Kind: ptp.Resp},
			{Kind: ptp.Resp, Seq: 7, Src: 3, Port: 4, Time: 5, To: 6, ToPort: 8},
			{Kind: ptp.Resp, Seq: 65535, Src: mostId, Port: mostPort, Time: least, To: mostId, ToPort: mostPort},
			{Kind: ptp.Resp, Domain: 127, Seq: 7, Src: c.Id, Port: c.Port, Corr: -9, Time: most, To: 6, ToPort: 8},
			{Kind: ptp.Resp, Seq: 8, Path: []int{}},
		} {
			for _, at := range []stamp.Stamp{0, 1, -1, 66 * ns, most, least} {
				want := m
				want.Kind, want.Time = ptp.RespMore, at
				if got, ok := p.More(m, at); !ok || !same(got, want) || got.Check() != api.OK {
					t.Errorf("More(%v, %d) of %v is %v, %v", m, int(at), c, got, ok)
				}
			}
		}
		a, _ := p.Answer(ptp.Msg{Kind: ptp.Req, Seq: 7, Src: 3, Port: 4}, 55)
		if got, ok := p.More(a, 66); !ok || !same(got, ptp.Msg{Kind: ptp.RespMore, Seq: 7, Src: c.Id, Port: c.Port, Time: 66, To: 3, ToPort: 4}) {
			t.Errorf("More of an Answer is %v, %v", got, ok)
		}
	}
}

// wrongs are messages like a right one, each with something that isn't right.
func wrongs(m ptp.Msg) []ptp.Msg {
	sets := []func(m *ptp.Msg){
		func(m *ptp.Msg) { m.Domain = -1 },
		func(m *ptp.Msg) { m.Domain = 128 },
		func(m *ptp.Msg) { m.Seq -= 65536 },
		func(m *ptp.Msg) { m.Seq += 65536 },
		func(m *ptp.Msg) { m.Src = -1 },
		func(m *ptp.Msg) { m.Src = mostId + 1 },
		func(m *ptp.Msg) { m.Port = -1 },
		func(m *ptp.Msg) { m.Port = 65536 },
		func(m *ptp.Msg) { m.To = -1 },
		func(m *ptp.Msg) { m.To = mostId + 1 },
		func(m *ptp.Msg) { m.ToPort = -1 },
		func(m *ptp.Msg) { m.ToPort = 65536 },
		func(m *ptp.Msg) { m.Rate = 1 },
		func(m *ptp.Msg) { m.Rate = rate.One },
		func(m *ptp.Msg) { m.Best.One = 1 },
		func(m *ptp.Msg) { m.Best.Id = 1 },
		func(m *ptp.Msg) { m.Steps = 1 },
		func(m *ptp.Msg) { m.Path = []int{1} },
		func(m *ptp.Msg) { m.Path = make([]int, 40) },
	}
	var list []ptp.Msg
	for _, set := range sets {
		n := m
		set(&n)
		list = append(list, n)
	}
	return list
}

// others are messages like another one, but of all other kinds, with what those have.
func others(m ptp.Msg) []ptp.Msg {
	var list []ptp.Msg
	for _, kind := range []int{ptp.Req, ptp.Sync, ptp.Resp, ptp.Follow, ptp.RespMore, ptp.Announce, 1, 4, 9, 12, 16, -1, 1 << 32, most, least} {
		if kind == m.Kind {
			continue
		}
		n := m
		n.Kind = kind
		list = append(list, n)
		n.Time, n.To, n.ToPort = 0, 0, 0
		list = append(list, n)
		n.Time = 5
		list = append(list, n)
		n.To = 3
		list = append(list, n)
	}
	return list
}

// P17.2: what isn't right, or of another kind, isn't answered.
func TestAnswerRefuses(t *testing.T) {
	p := newPeer(t, usual())
	req := ptp.Msg{Kind: ptp.Req, Seq: 7, Src: 3, Port: 4}
	list := append(wrongs(req), others(req)...)
	list = append(list, ptp.Msg{Kind: ptp.Req, Time: 1}, ptp.Msg{Kind: ptp.Req, To: 1}, ptp.Msg{Kind: ptp.Req, ToPort: 1}, ptp.Msg{})
	for _, m := range list {
		if got, ok := p.Answer(m, 55); ok || !same(got, ptp.Msg{}) {
			t.Errorf("Answer(%v) is %v, %v", m, got, ok)
		}
	}
	half := ptp.Msg{Kind: ptp.Resp, Seq: 7, Src: 5, Port: 1, Time: 55, To: 3, ToPort: 4}
	for _, m := range append(append(wrongs(half), others(half)...), ptp.Msg{}) {
		if got, ok := p.More(m, 66); ok || !same(got, ptp.Msg{}) {
			t.Errorf("More(%v) is %v, %v", m, got, ok)
		}
	}
}

// P17.2: to answer changes nothing of the own question; nor do others' questions, handed in as an answer.
func TestAnswerMeanwhile(t *testing.T) {
	c := usual()
	p := newPeer(t, c)
	x := times{1000 * ns, 5000 * ns, 6000 * ns, 2400 * ns}
	answer := func(seq int) {
		a, _ := p.Answer(ptp.Msg{Kind: ptp.Req, Seq: seq, Src: 9, Port: 2}, 3*ns)
		p.More(a, 4*ns)
		p.Answer(ptp.Msg{Kind: ptp.Req, Seq: seq, Src: c.Id, Port: c.Port}, 3*ns)
	}
	for range 2 {
		answer(0)
		seq := ask(t, p)
		answer(seq)
		p.Sent(seq, x.t1)
		answer(seq)
		holdIn(t, p, resp(c, seq, x.t2), x.t4, api.OK)
		answer(seq)
		holdIn(t, p, respMore(c, seq, x.t3), 0, api.OK)
		x = x.later(10000 * ns)
	}
	holdKnown(t, p, one, 200*ns, true)
}

// Two Peers of one setup never meet.
func TestTwoPeers(t *testing.T) {
	c := usual()
	p, q := newPeer(t, c), newPeer(t, c)
	x := times{1000 * ns, 5000 * ns, 6000 * ns, 2400 * ns}
	for range 5 {
		talk(t, p, c, x, api.OK)
		x = x.later(10000 * ns)
	}
	holdKnown(t, q, one, 0, false)
	if seq := ask(t, q); seq != 1 {
		t.Errorf("the other one's first Seq is %d", seq)
	}
	q.Down()
	holdKnown(t, p, one, 200*ns, true)
}
