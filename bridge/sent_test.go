package bridge_test

import (
	"testing"

	"sandglass/bridge"
	"sandglass/ptp"
	"sandglass/rate"
	"sandglass/stamp"
)

// question is what clock 9 asks.
func question(d, seq, port int) ptp.Msg {
	return ptp.Msg{Kind: ptp.Req, Domain: d, Seq: seq, Src: 9, Port: port}
}

// firstHalf is how a node of Id 5 answers it.
func firstHalf(seq, port, to int, time stamp.Stamp) ptp.Msg {
	return ptp.Msg{Kind: ptp.Resp, Seq: seq, Src: 5, Port: port, Time: time, To: 9, ToPort: to}
}

// otherHalf is that of an answer that went out at a time.
func otherHalf(seq, port, to int, time stamp.Stamp) ptp.Msg {
	m := firstHalf(seq, port, to, time)
	m.Kind = ptp.RespMore
	return m
}

// P23.3: no mark is 0, and none is given twice, be it of a tick or of an answer.
func TestMarks(t *testing.T) {
	b := linked(t, 8, 0)
	given := map[int]bool{0: true}
	for n := range 500 {
		outs := append(b.Tick(tick), hear(t, b, n%8, question(0, 1, 1), 0)...)
		marked := 0
		for _, x := range outs {
			m := read(t, x).m
			if is := m.Kind != ptp.Announce; is != (x.Mark != 0) {
				t.Errorf("%+v has mark %d", m, x.Mark)
			}
			if x.Mark == 0 {
				continue
			}
			if given[x.Mark] {
				t.Errorf("mark %d is there twice", x.Mark)
			}
			given[x.Mark] = true
			marked++
		}
		if marked != 8+8+8+1 {
			t.Errorf("%d have marks", marked)
		}
	}
}

// P23.3: of an answer that went out the other half goes out, once, without a mark, at any time and in any order.
func TestSentAnswer(t *testing.T) {
	b := linked(t, 3, 4)
	var outs []bridge.Out
	for n := range 6 {
		outs = append(outs, hear(t, b, n%3, question(0, 100+n, 40+n), stamp.Stamp(n))...)
	}
	for _, n := range []int{4, 0, 5, 3, 1, 2} {
		if outs[n].Mark == 0 {
			t.Errorf("an answer without a mark: %+v", outs[n])
		}
		here := times[n]
		holdTold(t, b.Sent(outs[n].Mark, here), told{n % 3, false, otherHalf(100+n, n%3, 40+n, here)})
		holdTold(t, b.Sent(outs[n].Mark, here))
		holdTold(t, b.Sent(outs[n].Mark, here+1))
	}
}

// P23.3: of a question that went out the Peer is told when, once; nothing goes out.
func TestSentQuestion(t *testing.T) {
	b := linked(t, 1, 0)
	for n := range stamp.Stamp(2) {
		here := n * tick
		outs := b.Tick(here)
		ask := outs[len(outs)-1]
		half := ptp.Msg{Kind: ptp.Resp, Seq: read(t, ask).m.Seq, Src: 9, Time: here, To: 5}
		heard(t, b, 0, half, here+900*ns) // the question isn't known to be out
		holdTold(t, b.Sent(ask.Mark, here))
		holdTold(t, b.Sent(ask.Mark, here+300*ns))
		heard(t, b, 0, half, here+600*ns)
		holdTold(t, b.Sent(ask.Mark, here+400*ns))
		half.Kind = ptp.RespMore
		heard(t, b, 0, half, here+800*ns)
		holdTold(t, b.Sent(ask.Mark, here+500*ns))
	}
	holdAble(t, b, 0, 300*ns, true)
}

// P23.3: of a Sync that went out what the Pair tells of its domain goes out, once: of the own clock that it is the time.
func TestSentSyncOfOwn(t *testing.T) {
	b := linked(t, 2, 0)
	outs := b.Tick(0)
	for i, x := range outs {
		m := read(t, x).m
		if m.Kind != ptp.Sync {
			continue
		}
		here := times[i%3] + stamp.Stamp(i)
		want := ptp.Msg{Kind: ptp.Follow, Domain: m.Domain, Seq: 1, Src: 5, Port: x.Port, Time: here, Rate: one}
		holdTold(t, b.Sent(x.Mark, here), told{x.Port, false, want})
		holdTold(t, b.Sent(x.Mark, here))
	}
}

// syncs is the marks of the Syncs of a domain that go out, by their ports.
func syncs(t *testing.T, outs []bridge.Out, d int) map[int]int {
	t.Helper()
	byPort := map[int]int{}
	for _, x := range outs {
		if m := read(t, x).m; m.Kind == ptp.Sync && m.Domain == d {
			byPort[x.Port] = x.Mark
		}
	}
	return byPort
}

// P23.3: of a Sync of a domain whose clock is another one goes out what that was known to be, how far it has gone since, and at which rate.
func TestSentSyncOfOther(t *testing.T) {
	for d := range 2 {
		b := slaved(t, d)
		b.Tick(2 * tick)
		m := follow(d, 50, 70*tick)
		m.Rate = one + one/1000
		heard(t, b, 0, mark(d, 50), 3*tick)
		heard(t, b, 0, m, 3*tick)
		there := 70*tick + 300*ns + 300*ns/1000
		outs := b.Tick(3 * tick)
		of := syncs(t, outs, d)
		if len(of) != 1 || of[1] == 0 {
			t.Fatalf("Syncs of domain %d: %v", d, of)
		}
		want := ptp.Msg{Kind: ptp.Follow, Domain: d, Seq: 4, Src: 5, Port: 1, Time: there, Corr: 1001000 * ns, Rate: m.Rate}
		got := b.Sent(of[1], 4*tick)
		if len(got) != 1 {
			t.Fatalf("behind the Sync goes out %+v", got)
		}
		// The rate is cut where it isn't a whole number of parts; so are times by it.
		x := read(t, got[0])
		near := func(a, b stamp.Stamp) stamp.Stamp {
			if d := a - b; d >= -ns && d <= ns {
				return b
			}
			return a
		}
		x.m.Time, x.m.Corr = near(x.m.Time, want.Time), near(x.m.Corr, want.Corr)
		if text(x) != text(told{1, false, want}) {
			t.Errorf("behind the Sync goes out %+v, not %+v", x, want)
		}
	}
}

// P23.3: a Sync's Follow has the Seq of its own tick, be it told behind others.
func TestSentSyncLate(t *testing.T) {
	b := linked(t, 1, 0)
	var list []map[int]int
	for n := range stamp.Stamp(5) {
		list = append(list, syncs(t, b.Tick(n*tick), 0))
	}
	for _, n := range []int{3, 0, 4, 2, 1} {
		want := ptp.Msg{Kind: ptp.Follow, Seq: n + 1, Src: 5, Time: 9 * tick, Rate: one}
		holdTold(t, b.Sent(list[n][0], 9*tick), told{0, false, want})
	}
}

// P23.3: the Pair tells of domain 1, where the own clock is its best, what domain 0 is, while that is fresh.
func TestSentSyncHeld(t *testing.T) {
	b := slaved(t, 0)
	b.Tick(2 * tick)
	heard(t, b, 0, mark(0, 50), 3*tick)
	heard(t, b, 0, follow(0, 50, 70*tick), 3*tick)
	of := syncs(t, b.Tick(3*tick), 1)
	want := ptp.Msg{Kind: ptp.Follow, Domain: 1, Seq: 4, Src: 5, Port: 0, Time: 71*tick + 300*ns, Rate: one}
	holdTold(t, b.Sent(of[0], 4*tick), told{0, false, want})
}

// P23.3: where the Pair tells nothing, nothing goes out, and the mark was told.
func TestSentSyncOfNothing(t *testing.T) {
	b := slaved(t, 0)
	b.Tick(2 * tick)
	heard(t, b, 0, mark(0, 50), 3*tick)
	heard(t, b, 0, follow(0, 50, most-300*ns-tick), 3*tick)
	of := syncs(t, b.Tick(3*tick), 0)
	holdTold(t, b.Sent(of[1], 4*tick+1))
	holdTold(t, b.Sent(of[1], 4*tick))
	if of = syncs(t, b.Tick(3*tick), 0); len(b.Sent(of[1], 4*tick)) != 1 {
		t.Error("nothing goes out of what fits")
	}
}

// P23.3: of a mark that was never given nothing goes out, and nothing is changed.
func TestSentOfNone(t *testing.T) {
	b := linked(t, 1, 0)
	holdTold(t, b.Sent(1, 0))
	a := hear(t, b, 0, question(0, 1, 1), 0)[0].Mark
	for _, mark := range append([]int{0, a + 1, a - 1, -a}, strangers...) {
		if mark != a {
			holdTold(t, b.Sent(mark, 5))
		}
	}
	holdTold(t, b.Sent(a, 7), told{0, false, otherHalf(1, 0, 1, 7)})
}

// P23.3: a mark is known until it is 1000 behind the last one.
func TestSentBehind(t *testing.T) {
	for _, behind := range []int{0, 1, 500, 998, 999} {
		b := linked(t, 1, 0)
		outs := hear(t, b, 0, question(0, 7, 8), 0)
		for n := range behind {
			hear(t, b, 0, question(0, n, 1), 0)
		}
		holdTold(t, b.Sent(outs[0].Mark, 5), told{0, false, otherHalf(7, 0, 8, 5)})
		holdTold(t, b.Sent(outs[0].Mark, 5))
	}
	b := linked(t, 1, 0)
	var all []int
	for n := range 3000 {
		all = append(all, hear(t, b, 0, question(0, n, 1), 0)[0].Mark)
	}
	for n, mark := range all {
		// Of an older one nothing need be known; what is told of it is told of it.
		if got := b.Sent(mark, 5); n >= 2001 || len(got) > 0 {
			holdTold(t, got, told{0, false, otherHalf(n, 0, 1, 5)})
		}
	}
}

// P23.3: an answer is told, a question and a Sync too, though the link be gone meanwhile.
func TestSentBehindLink(t *testing.T) {
	b := linked(t, 2, 0)
	answered := hear(t, b, 0, question(0, 7, 8), 0)
	of := syncs(t, b.Tick(0), 1)
	b.Link(0, false)
	holdTold(t, b.Sent(answered[0].Mark, 5), told{0, false, otherHalf(7, 0, 8, 5)})
	want := ptp.Msg{Kind: ptp.Follow, Domain: 1, Seq: 1, Src: 5, Time: 5, Rate: rate.One}
	holdTold(t, b.Sent(of[0], 5), told{0, false, want})
}
