package host_test

import (
	"bytes"
	"slices"
	"testing"

	"sandglass/api"
	"sandglass/bridge"
	"sandglass/ether"
	"sandglass/host"
	"sandglass/ptp"
	"sandglass/stamp"
)

// chance is a row of numbers that looks like one at random, always the same.
type chance uint64

func (c *chance) below(n int) int {
	*c = *c*6364136223846793005 + 1442695040888963407
	return int(*c>>20) % n
}

// one is one of some numbers.
func (c *chance) one(xs ...int) int { return xs[c.below(len(xs))] }

// known is which numbers have come, by the words of layers 13 and 14: all that were taken since all was new, the last one to come ahead of the others last.
type known struct {
	come []int
	last int
	when int
}

// isTaken tells whether a number is taken, and lets it have come.
func (k *known) isTaken(reset, now, seq int) bool {
	if now-k.when >= reset {
		k.come = nil
	}
	if len(k.come) > 0 {
		ahead := ((seq-k.last)%65536 + 65536) % 65536
		if ahead >= 32768 {
			ahead -= 65536
		}
		if ahead <= -32 || ahead >= 32 {
			return false
		}
		if slices.Contains(k.come, seq) && ahead <= 0 {
			return false
		}
		if ahead < 0 {
			k.come, k.when = append(k.come, seq), now
			return true
		}
		// Those that fall out of the window may come again, once the numbers have gone round.
		k.come = slices.DeleteFunc(k.come, func(old int) bool { return (seq-old+65536)%65536 >= 32 })
	}
	k.come, k.last, k.when = append(k.come, seq), seq, now
	return true
}

// plain is a station by the chapter's words.
type plain struct {
	node  *bridge.Bridge
	ports int
	ends  []host.End
	reset int
	sent  []int       // how many frames each end sent
	rows  [][3]*known // of each end: its ways', and both ways'
	again int
	stray int
}

func newPlain(t *testing.T, c bridge.Conf, ends []host.End, reset int) *plain {
	t.Helper()
	node, err := bridge.New(c)
	if err != api.OK {
		t.Fatalf("bridge.New(%+v) is %d", c, err)
	}
	p := &plain{node: node, ports: c.Ports, ends: ends, reset: reset, sent: make([]int, len(ends))}
	for range ends {
		p.rows = append(p.rows, [3]*known{{}, {}, {}})
	}
	return p
}

// gots is what is taken of a frame that came.
func (p *plain) gots(port int, x []byte, here stamp.Stamp) []host.Got {
	f, err := ether.Decode(x)
	if err != api.OK || f.Dst == ptpMac || port < 0 || port >= p.ports {
		return nil
	}
	i := slices.IndexFunc(p.ends, func(e host.End) bool {
		return !e.Talk && f.Tagged && e.Flow.Vid == f.Vid && bytes.Equal(e.Flow.Mac[:], f.Dst[:])
	})
	if i < 0 {
		return []host.Got{asIs(f)}
	}
	ports := p.ends[i].Ports
	if !f.Many || port != ports[0] && port != ports[1] {
		p.stray++
		return nil
	}
	way := 0
	if port == ports[1] {
		way = 1
	}
	now := int(here / ns)
	if here%ns < 0 {
		now--
	}
	rows := p.rows[i]
	if !rows[way].isTaken(p.reset, now, f.Seq) || !rows[2].isTaken(p.reset, now, f.Seq) {
		p.again++
		return nil
	}
	return []host.Got{taken(i, f.Seq, f.Data...)}
}

// run is a station and a plain one, and what happens to both.
type run struct {
	t    *testing.T
	c    *chance
	h    *host.Host
	p    *plain
	now  stamp.Stamp
	base []int          // about which numbers each end's flow has
	late [2]int         // by how many numbers each way is behind
	seen map[string]int // how often what was
}

// note counts that something was.
func (r *run) note(what string, is bool) {
	if is {
		r.seen[what]++
	}
}

// in lets bytes come in.
func (r *run) in(port int, x []byte, here stamp.Stamp) {
	r.t.Helper()
	again, stray := r.p.again, r.p.stray
	wantOuts, _ := r.p.node.In(port, x, here)
	want := r.p.gots(port, x, here)
	kept := bytes.Clone(x)
	outs, got := r.h.In(port, x, here)
	if text(outs) != text(wantOuts) || text(got) != text(want) {
		r.t.Fatalf("In(%d, %v, %d) is %+v, %+v, not %+v, %+v", port, x, here, outs, got, wantOuts, want)
	}
	if !bytes.Equal(x, kept) {
		r.t.Fatal("In turned what was handed in")
	}
	clear(x) // what was handed in isn't kept
	r.note("out", len(outs) > 0)
	r.note("taken", len(got) > 0 && got[0].Flow >= 0)
	r.note("as it is", len(got) > 0 && got[0].Flow == -1)
	r.note("again", r.p.again > again)
	r.note("stray", r.p.stray > stray)
}

// flow lets a frame come that is mostly a right one of an end's flow, on one of its ways.
func (r *run) flow() {
	i := r.c.below(len(r.p.ends))
	e, way := r.p.ends[i], r.c.below(2)
	if r.c.below(3) == 0 {
		r.base[i] += r.c.one(1, 1, 1, 1, 2, 5)
	}
	seq := r.base[i] - r.late[way] - r.c.one(0, 0, 0, 1, 2)
	port := e.Ports[way]
	f := flowing(e.Flow.Vid, e.Flow.Mac, 0, make([]byte, r.c.one(0, 1, 30, 60))...)
	for k := range f.Data {
		f.Data[k] = byte(r.c.below(256))
	}
	switch r.c.below(40) {
	case 0:
		f.Vid = r.c.one(0, 1, 2, 3, 4, 4094)
	case 1:
		f.Dst = r.mac()
	case 2:
		f.Tagged, f.Vid, f.Prio = false, 0, 0
	case 3:
		port = r.c.below(r.p.ports)
	case 4:
		seq = r.c.below(65536)
	case 5:
		seq += r.c.one(-31, -32, -33, 31, 32, 33)
	case 6:
		f.Prio, f.Drop, f.Src, f.Type = r.c.below(8), true, r.mac(), 0x900
	}
	f.Seq = (seq%65536 + 65536) % 65536
	if r.c.below(40) == 0 {
		f.Many, f.Seq = false, 0
	}
	r.in(port, encode(r.t, f), r.now)
}

func (r *run) mac() api.Mac { return api.Mac{1, 0, 0, 0, 1, byte(r.c.below(4))} }

// rest lets a message come, or bytes that are no frame, anywhere.
func (r *run) rest() {
	port := r.c.below(r.p.ports+2) - 1
	x := carry(r.t, ptp.Msg{Kind: r.c.one(ptp.Req, ptp.Sync, ptp.Resp), Seq: r.c.below(5), Src: 9, Port: 1})
	switch r.c.below(4) {
	case 0:
		x[r.c.below(len(x))] ^= 1 << r.c.below(8)
	case 1:
		x = x[:r.c.below(len(x))]
	}
	r.in(port, x, r.now)
}

// send lets an end send, be it there or not.
func (r *run) send() {
	i := r.c.below(len(r.p.ends)+2) - 1
	data := make([]byte, r.c.one(0, 5, 100, 1501))
	switch {
	case i < 0 || i >= len(r.p.ends) || !r.p.ends[i].Talk:
		holdNoSend(r.t, r.h, i, data, api.ErrNone)
		r.note("no such end", true)
	case len(data) > 1500:
		holdNoSend(r.t, r.h, i, data, api.ErrLong)
		r.note("too long", true)
	default:
		holdSend(r.t, r.h, i, r.p.ends[i], r.p.sent[i], data)
		r.p.sent[i]++
		r.note("sent", true)
	}
}

// tick lets a tick go by, of which the marked frames go out.
func (r *run) tick() {
	outs, want := r.h.Node().Tick(r.now), r.p.node.Tick(r.now)
	if text(outs) != text(want) {
		r.t.Fatalf("Tick(%d) is %+v, not %+v", r.now, outs, want)
	}
	for _, x := range outs {
		if text(r.h.Node().Sent(x.Mark, r.now)) != text(r.p.node.Sent(x.Mark, r.now)) {
			r.t.Fatalf("behind %+v goes out something else", x)
		}
	}
	r.note("tick", len(outs) > 0)
}

// step is what happens next.
func (r *run) step() {
	r.t.Helper()
	r.now += stamp.Stamp(r.c.below(40))*ns/10 + stamp.Stamp(r.c.below(3))
	switch x := r.c.below(1000); {
	case x < 50:
		r.send()
	case x < 80:
		r.rest()
	case x < 90:
		r.tick()
	case x < 95:
		port, up := r.c.below(r.p.ports+2)-1, r.c.below(4) > 0
		r.h.Node().Link(port, up)
		r.p.node.Link(port, up)
	case x < 105:
		r.late = [2]int{r.c.one(0, 1, 10, 31, 40), r.c.one(0, 0, 3, 32)}
	case x < 110: // a silence, or none quite
		r.now += stamp.Stamp(r.p.reset+r.c.below(3)-1) * ns
	default:
		r.flow()
	}
	holdCounts(r.t, r.h, r.p.again, r.p.stray)
	if got, want := r.h.Node().Counts(), r.p.node.Counts(); got != want {
		r.t.Errorf("the node's counts are %d, not %d", got, want)
	}
	if r.t.Failed() {
		r.t.FailNow()
	}
}

// newRun is a station of some ends.
func newRun(t *testing.T, c *chance, seen map[string]int) *run {
	t.Helper()
	x := conf(2 + c.below(7))
	r := &run{t: t, c: c, now: stamp.Stamp(c.one(0, -1<<40, 1<<50)), seen: seen}
	var ends []host.End
	for range 1 + c.below(6) {
		a := c.below(x.Ports)
		b := (a + 1 + c.below(x.Ports-1)) % x.Ports
		e := talks(c.one(2, 3, 4094), r.mac(), a, b)
		e.Talk = c.below(3) == 0
		ends = append(ends, e)
		r.base = append(r.base, c.one(0, 65500, c.below(65536)))
	}
	reset := c.one(1, 3, 50, 300, 10000)
	r.h, r.p = newHost(t, x, reset, ends...), newPlain(t, x, ends, reset)
	return r
}

// P24.2, P24.3: many stations, long runs, held against the chapter's words.
func TestLongRuns(t *testing.T) {
	c := chance(1)
	seen := map[string]int{}
	for range 150 {
		r := newRun(t, &c, seen)
		for range 1500 {
			r.step()
		}
	}
	for _, what := range []string{"out", "taken", "as it is", "again", "stray", "no such end", "too long", "sent", "tick"} {
		if seen[what] < 300 {
			t.Errorf("of %s there is too little: %v", what, seen)
		}
	}
}

// P24.1: many stations in which something is wrong, or not.
func TestNewRuns(t *testing.T) {
	c := chance(2)
	seen := map[api.Errno]int{}
	for range 20000 {
		x, reset := conf(1+c.below(8)), c.one(1, maxTime)
		var ends []host.End
		for range c.below(4) {
			a, b := c.below(x.Ports), c.below(x.Ports)
			ends = append(ends, talks(c.one(2, 9, 4094), mac1, a, b))
		}
		switch c.below(12) {
		case 0:
			x.Relay = true
		case 1:
			reset = c.one(0, -1, maxTime+1)
		case 2:
			x.Every = 0
		case 3, 4, 5:
			if len(ends) > 0 {
				e := &ends[c.below(len(ends))]
				*[]*int{&e.Flow.Vid, &e.Ports[0], &e.Ports[1]}[c.below(3)] = c.one(-1, 0, 1, x.Ports-1, x.Ports, x.Ports+1, 4095)
			}
		}
		want := api.OK
		if x.Every == 0 {
			want = api.ErrArg
		}
		for _, e := range slices.Backward(ends) {
			if e.Ports[0] == e.Ports[1] || e.Flow.Vid < 2 || e.Flow.Vid > 4094 {
				want = api.ErrArg
			}
			if min(e.Ports[0], e.Ports[1]) < 0 || max(e.Ports[0], e.Ports[1]) > x.Ports-1 {
				want = api.ErrPort
			}
		}
		if x.Relay || reset < 1 || reset > maxTime {
			want = api.ErrArg
		}
		holdNew(t, x, ends, reset, want)
		seen[want]++
	}
	for _, err := range []api.Errno{api.OK, api.ErrArg, api.ErrPort} {
		if seen[err] < 1000 {
			t.Errorf("of %d there are only %d", err, seen[err])
		}
	}
}
