package bridge_test

import (
	"slices"
	"testing"

	"sandglass/api"
	"sandglass/bridge"
	"sandglass/ether"
	"sandglass/pair"
	"sandglass/peer"
	"sandglass/ptp"
	"sandglass/stamp"
	"sandglass/tree"
)

// chance is a row of numbers that looks like one at random, always the same.
type chance uint64

func (c *chance) below(n int) int {
	*c = *c*6364136223846793005 + 1442695040888963407
	return int(*c>>20) % n
}

// one is one of some numbers.
func (c *chance) one(xs ...int) int { return xs[c.below(len(xs))] }

// sight is where and when an address was seen.
type sight struct {
	mac  api.Mac
	port int
	when stamp.Stamp
}

// given is a message that went out with a mark, and whether it was told when.
type given struct {
	port int
	m    ptp.Msg
	told bool
}

// plain is a node by the chapter's words: of the layers below it has those that hold clocks together; where frames go it finds by searching through all that it is made of.
type plain struct {
	t      *testing.T
	c      bridge.Conf
	up     []bool
	peers  []*peer.Peer
	trees  [2]*tree.Tree
	pair   *pair.Pair
	ticks  int
	given  []given // by their marks, from 1 on
	seen   []sight
	counts [bridge.Whys]int
}

func newPlain(t *testing.T, c bridge.Conf) *plain {
	p := &plain{t: t, c: c, up: make([]bool, c.Ports)}
	for port := range c.Ports {
		x, _ := peer.New(peer.Conf{Id: c.Id, Port: port, Most: 1 << 40, Slack: 1 << 27, Window: 8, Lost: 3})
		p.peers = append(p.peers, x)
	}
	p.trees[0], _ = tree.New(0, c.Prior[0], c.Ports, 3*c.Every+c.Every/2)
	p.trees[1], _ = tree.New(1, c.Prior[1], c.Ports, 3*c.Every+c.Every/2)
	p.pair, _ = pair.New(stamp.Stamp(3*c.Every)*ns + stamp.Stamp(c.Every)*ns/2)
	return p
}

// out is a message that goes out; with a mark that is one more than the last.
func (p *plain) out(port int, m ptp.Msg, marked bool) bridge.Out {
	x := bridge.Out{Port: port, Class: 6, Bytes: carry(p.t, m)}
	if marked {
		p.given = append(p.given, given{port: port, m: m})
		x.Mark = len(p.given)
	}
	return x
}

func (p *plain) link(port int, up bool) {
	if port < 0 || port >= p.c.Ports || p.up[port] == up {
		return
	}
	p.up[port] = up
	p.trees[0].Up(port, up)
	p.trees[1].Up(port, up)
	p.peers[port].Down()
	p.seen = slices.DeleteFunc(p.seen, func(s sight) bool { return s.port == port })
}

func (p *plain) tick(here stamp.Stamp) []bridge.Out {
	p.ticks++
	seq := p.ticks % 65536
	p.seen = slices.DeleteFunc(p.seen, func(s sight) bool { return here-s.when > 300*stamp.Stamp(p.c.Every)*ns })
	var list []bridge.Out
	for d, x := range p.trees {
		isOwn := x.Root(here.Floor())
		p.pair.Root(d, isOwn, here)
		for port := range p.c.Ports {
			if m, ok := x.Out(port, seq, here.Floor()); ok {
				list = append(list, p.out(port, m, false))
			}
			_, roles := x.Best(here.Floor())
			if roles[port] == master && (isOwn || p.pair.Fresh(d, here)) {
				list = append(list, p.out(port, ptp.Msg{Kind: ptp.Sync, Domain: d, Seq: seq, Src: p.c.Id, Port: port}, true))
			}
		}
	}
	for port := range p.c.Ports {
		if m, _ := p.peers[port].Ask(); p.up[port] {
			list = append(list, p.out(port, m, true))
		}
	}
	return list
}

func (p *plain) sent(mark int, here stamp.Stamp) []bridge.Out {
	if mark < 1 || mark > len(p.given) || p.given[mark-1].told {
		return nil
	}
	g := &p.given[mark-1]
	g.told = true
	var m ptp.Msg
	ok := false
	switch g.m.Kind {
	case ptp.Req:
		p.peers[g.port].Sent(g.m.Seq, here)
	case ptp.Resp:
		m, ok = p.peers[g.port].More(g.m, here)
	case ptp.Sync:
		m, ok = p.pair.Tell(g.m.Domain, g.m.Seq, p.c.Id, g.port, here)
	}
	if !ok {
		return nil
	}
	return []bridge.Out{p.out(g.port, m, false)}
}

func (p *plain) in(port int, x []byte, here stamp.Stamp) ([]bridge.Out, []ether.Frame) {
	if port < 0 || port >= p.c.Ports {
		return nil, nil
	}
	f, err := ether.Decode(x)
	if err != api.OK {
		p.counts[0]++
		return nil, nil
	}
	if f.Dst == ptpMac {
		return p.hear(port, f, here), nil
	}
	if !p.c.Relay {
		return nil, []ether.Frame{f}
	}
	list, why := p.pass(port, f, len(x), here)
	if len(list) == 0 {
		p.counts[why]++
	}
	return list, nil
}

func (p *plain) hear(port int, f ether.Frame, here stamp.Stamp) []bridge.Out {
	m, err := ptp.Decode(f.Data)
	switch {
	case f.Type != 0x88f7 || err != api.OK:
		p.counts[0]++
	case m.Kind == ptp.Req:
		answer, _ := p.peers[port].Answer(m, here)
		return []bridge.Out{p.out(port, answer, true)}
	case m.Kind == ptp.Resp || m.Kind == ptp.RespMore:
		p.peers[port].In(m, here)
	case m.Domain > 1 || !p.peers[port].Able():
	case m.Kind == ptp.Announce:
		p.trees[m.Domain].In(port, m, here.Floor())
	default:
		if best, _ := p.trees[m.Domain].Best(here.Floor()); best.At != port {
			return nil
		}
		p.pair.Sync(m, here)
		p.pair.Follow(m, p.peers[port].Delay(), p.peers[port].Rate())
	}
	return nil
}

// vlan is the VLAN of a frame, and whether a port belongs to it.
func (p *plain) vlan(port int, f ether.Frame) (int, bool) {
	if !f.Tagged || f.Vid < 2 {
		return 1, true
	}
	for _, x := range p.c.Flows {
		if x.Vid == f.Vid && (x.In == port || x.Outs>>port&1 == 1) {
			return f.Vid, true
		}
	}
	return f.Vid, false
}

// pass is a frame at each port at which it goes out; else why it doesn't.
func (p *plain) pass(port int, f ether.Frame, size int, here stamp.Stamp) ([]bridge.Out, int) {
	vid, belongs := p.vlan(port, f)
	if !belongs {
		return nil, bridge.Vlan
	}
	if vid != 1 {
		for _, x := range p.c.Flows {
			switch {
			case x.In != port || x.Vid != vid || x.Mac != f.Dst:
			case x.Max != 0 && size > x.Max:
				return nil, bridge.Long
			default:
				f.Prio = 7
				return goes(p.t, f, 7, f.Drop, bits(x.Outs)...), bridge.Nowhere
			}
		}
		return nil, bridge.Forged
	}
	class, drop := min(f.Prio, 5), f.Drop
	p.see(sight{f.Src, port, here})
	ports := 1<<p.c.Ports - 1
	for _, s := range p.seen {
		if s.mac == f.Dst {
			ports = 1 << s.port
		}
	}
	f.Tagged, f.Vid, f.Prio, f.Drop = false, 0, 0, false
	return goes(p.t, f, class, drop, bits(ports&^(1<<port))...), bridge.Nowhere
}

// see notes an address, if it is one place's, and known or no more than 255 others are.
func (p *plain) see(s sight) {
	i := slices.IndexFunc(p.seen, func(o sight) bool { return o.mac == s.mac })
	switch {
	case s.mac[0]%2 == 1:
	case i >= 0:
		p.seen[i] = s
	case len(p.seen) < 256:
		p.seen = append(p.seen, s)
	}
}

// bits is the places of a number's bits.
func bits(x int) []int {
	var list []int
	for i := range 8 {
		if x>>i&1 == 1 {
			list = append(list, i)
		}
	}
	return list
}

// run is a node and a plain one, and what happens to both.
type run struct {
	t     *testing.T
	c     *chance
	b     *bridge.Bridge
	p     *plain
	now   stamp.Stamp
	macs  int // how many addresses there are
	syncs [2]int
	seen  map[string]int // how often what was
}

// note counts that something was.
func (r *run) note(what string, is bool) {
	if is {
		r.seen[what]++
	}
}

// hold holds what goes out, and is its own, of a node against a plain one's.
func (r *run) hold(what string, got, want []bridge.Out, own, wantOwn []ether.Frame) {
	r.t.Helper()
	if text(got) != text(want) || text(own) != text(wantOwn) {
		r.t.Fatalf("%s: what goes out is\n%+v, not\n%+v; own are %+v, not %+v", what, got, want, own, wantOwn)
	}
	r.note(what+" goes out", len(got) > 0)
	r.note("own", len(own) > 0)
}

// ask holds all that a node tells of itself against a plain one.
func (r *run) ask() {
	r.t.Helper()
	b, p, here := r.b, r.p, r.now+stamp.Stamp(r.c.below(1000))*ns
	for d := range 2 {
		best, roles := p.trees[d].Best(here.Floor())
		holdRoles(r.t, b, d, here, best.Root, roles...)
		for _, role := range roles {
			r.note([]string{"off", "master", "slave", "passive"}[role], true)
		}
	}
	for port, x := range p.peers {
		holdAble(r.t, b, port, x.Delay(), x.Able())
		r.note("able", x.Able())
		r.note("not able", !x.Able())
	}
	if got := b.Counts(); got != p.counts {
		r.t.Errorf("Counts is %d, not %d", got, p.counts)
	}
	holdPlaces(r.t, b, len(p.seen))
	r.note("all places", len(p.seen) == 256)
	if r.c.below(3) == 0 { // it turns what holds
		time, ok := p.pair.At(here)
		got, is := b.At(here)
		if got != time || is != ok {
			r.t.Errorf("At(%d) is %d, %v, not %d, %v", here, got, is, time, ok)
		}
		r.note("time", ok)
		r.note("no time", !ok)
		r.note("own time", time == here)
	}
	if r.t.Failed() {
		r.t.FailNow()
	}
}

// in lets bytes come in.
func (r *run) in(what string, port int, x []byte, here stamp.Stamp) []bridge.Out {
	r.t.Helper()
	kept := slices.Clone(x)
	want, wantOwn := r.p.in(port, x, here)
	got, own := r.b.In(port, x, here)
	r.hold(what, got, want, own, wantOwn)
	if !slices.Equal(x, kept) {
		r.t.Fatal("In turned what was handed in")
	}
	clear(x) // what was handed in isn't kept
	return got
}

func (r *run) sent(mark int, here stamp.Stamp) {
	r.t.Helper()
	// Of older ones nothing need be known.
	if mark > 0 && mark <= len(r.p.given)-1000 {
		return
	}
	r.hold("Sent", r.b.Sent(mark, here), r.p.sent(mark, here), nil, nil)
}

// neighbour is the clock at a port's other end, and how far it is ahead.
func (r *run) neighbour(port int) (int, stamp.Stamp) {
	return 20 + 2*port, r.now + r.now/stamp.Stamp(1000*(port+1)) + stamp.Stamp(port)*tick
}

// tick lets a tick go by, of which most marked frames go out, and most questions are answered.
func (r *run) tick() {
	r.t.Helper()
	got, want := r.b.Tick(r.now), r.p.tick(r.now)
	r.hold("Tick", got, want, nil, nil)
	for _, x := range got {
		if x.Mark == 0 || r.c.below(12) == 0 {
			continue
		}
		r.now += 100 * ns
		r.sent(x.Mark, r.now)
		m := read(r.t, x).m
		if m.Kind == ptp.Req && r.c.below(12) > 0 {
			r.answer(x.Port, m)
		}
	}
}

// answer lets a question be answered, over a link that takes 200 ns.
func (r *run) answer(port int, ask ptp.Msg) {
	id, there := r.neighbour(port)
	half := ptp.Msg{Kind: ptp.Resp, Seq: ask.Seq, Src: id, Time: there + 200*ns, To: r.p.c.Id, ToPort: port}
	r.in("half", port, carry(r.t, half), r.now+400*ns)
	half.Kind = ptp.RespMore
	r.in("half", port, carry(r.t, half), r.now+500*ns)
}

// message is one of all kinds; most are what a neighbour says.
func (r *run) message() {
	port := r.c.below(r.p.c.Ports+1) - r.c.below(2)
	id, there := r.neighbour(max(0, port))
	d := r.c.one(0, 0, 0, 0, 1, 1, 1, 1, 2, 127)
	seq := r.c.below(4)
	m := ptp.Msg{Domain: d, Seq: seq, Src: id, Port: r.c.below(3)}
	switch r.c.below(9) {
	case 0:
		m.Kind = ptp.Req
	case 1, 2, 3:
		m.Kind, m.Steps = ptp.Announce, r.c.below(4)
		m.Best = ptp.Prior{One: r.c.one(99, 100, 101, 100), Class: 6, Id: r.c.one(3, 7, r.p.c.Id)}
		m.Path = []int{r.c.one(30, 31, 32, r.p.c.Id), id}
	case 4, 5, 6, 7:
		m.Kind, m.Time, m.Rate = ptp.Follow, there+stamp.Stamp(d)*tick, one+one/2000
		first := ptp.Msg{Kind: ptp.Sync, Domain: d, Seq: seq, Src: m.Src, Port: m.Port}
		r.in("Sync", port, carry(r.t, first), r.now)
		r.now += stamp.Stamp(r.c.below(300)) * ns
		if r.c.below(8) == 0 {
			port = r.c.below(r.p.c.Ports)
		}
	case 8:
		m.Kind, m.Time, m.To, m.ToPort = r.c.one(ptp.Resp, ptp.RespMore), there, r.p.c.Id, port&7
	}
	r.in("message", port, carry(r.t, m), r.now+stamp.Stamp(r.c.below(3)))
}

// frame is one of no clock: of a flow, of none, or none at all.
func (r *run) frame() {
	port := r.c.below(r.p.c.Ports+1) - r.c.below(2)
	f := ether.Frame{Dst: r.mac(), Src: r.mac(), Type: r.c.one(0x600, 0x800, 0x88f7, 0xffff), Data: make([]byte, r.c.one(0, 10, 40, 40+r.c.below(60), 1570))}
	if r.c.below(3) > 0 {
		f = tagged(f, r.c.one(0, 0, 1, 1, 2, 3, 4, 4094), r.c.below(8), r.c.below(2) == 0)
	}
	if n := len(r.p.c.Flows); n > 0 && r.c.below(3) == 0 {
		x := r.p.c.Flows[r.c.below(n)]
		f.Dst = x.Mac
		f = tagged(f, x.Vid, r.c.below(8), r.c.below(4) == 0)
		if r.c.below(6) > 0 {
			port = x.In
		}
	}
	if r.c.below(3) == 0 {
		f.Many, f.Seq = true, r.c.below(65536)
	}
	x := encode(r.t, f)
	switch r.c.below(20) {
	case 0:
		x[r.c.below(len(x))] ^= 1 << r.c.below(8)
	case 1:
		x = x[:r.c.below(len(x))]
	case 2:
		f.Dst = ptpMac
		x = encode(r.t, f)
	}
	r.in("frame", port, x, r.now)
}

// mac is mostly one of some addresses of one place.
func (r *run) mac() api.Mac {
	if r.c.below(10) == 0 {
		return api.Mac{1, byte(r.c.below(4))}
	}
	return ether.Of(2<<40 + r.c.below(r.macs))
}

// step is what happens next.
func (r *run) step() {
	r.t.Helper()
	r.now += stamp.Stamp(r.c.below(40))*ns + stamp.Stamp(r.c.below(3))
	switch x := r.c.below(100); {
	case x < 12:
		r.now += stamp.Stamp(r.c.below(r.p.c.Every)) * ns
		r.tick()
	case x < 40:
		r.message()
	case x < 42:
		port, up := r.c.below(r.p.c.Ports+2)-1, r.c.below(4) > 0
		r.b.Link(port, up)
		r.p.link(port, up)
	case x < 50:
		r.sent(len(r.p.given)-r.c.below(30)+3, r.now)
	case x < 51:
		r.sent(r.c.one(0, -1, least, most, len(r.p.given)+1, len(r.p.given)-999), r.now)
	case x < 52 && r.c.below(20) == 0:
		r.now += stamp.Stamp(r.c.one(r.p.c.Every, 4*r.p.c.Every, 299*r.p.c.Every)) * ns
	default:
		r.frame()
	}
	r.ask()
}

// flow is one that a node with so many ports may have.
func (c *chance) flow(ports int) bridge.Flow {
	in := c.below(ports)
	return bridge.Flow{Vid: c.one(2, 3, 4094), Mac: api.Mac{1, byte(c.below(4))}, In: in, Outs: c.below(1<<ports) &^ (1 << in), Max: c.one(0, 64, 70, 100, 1600)}
}

// P23.2 to P23.5: many nodes, long runs, held against the chapter's words.
func TestLongRuns(t *testing.T) {
	c := chance(1)
	seen := map[string]int{}
	var why [bridge.Whys]int
	for n := range 60 {
		x := conf(25, 1+c.below(8))
		x.Relay = n%6 > 0
		x.Every = c.one(1000, 1001, 5000)
		x.Prior[1].One = c.one(99, 100)
		for range c.below(12) {
			x.Flows = append(x.Flows, c.flow(x.Ports))
		}
		r := &run{t: t, c: &c, b: newNode(t, x), p: newPlain(t, x), now: stamp.Stamp(c.one(0, -1<<40, 1<<50)), macs: c.one(4, 12, 1000), seen: seen}
		for port := range x.Ports {
			r.b.Link(port, true)
			r.p.link(port, true)
		}
		if r.macs == 1000 {
			for i := range 250 {
				r.in("frame", i%x.Ports, encode(t, bare(all, ether.Of(2<<40+i))), r.now)
			}
		}
		for range 1200 {
			r.step()
		}
		for i, n := range r.p.counts {
			why[i] += n
		}
	}
	for _, what := range []string{
		"Tick goes out", "Sent goes out", "message goes out", "frame goes out", "own", "off", "master", "slave", "passive",
		"able", "not able", "time", "no time", "own time", "all places",
	} {
		if seen[what] < 100 {
			t.Errorf("of %s there is too little: %v", what, seen)
		}
	}
	for _, i := range []int{bridge.Bad, bridge.Vlan, bridge.Forged, bridge.Long, bridge.Nowhere} {
		if why[i] < 200 {
			t.Errorf("of counts there are too few: %d", why)
		}
	}
	if why[bridge.Closed]+why[bridge.Fast]+why[bridge.Blocked] != 0 {
		t.Errorf("what can't be is counted: %d", why)
	}
}
