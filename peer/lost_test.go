package peer_test

import (
	"testing"

	"sandglass/api"
	"sandglass/peer"
	"sandglass/rate"
	"sandglass/stamp"
)

// able is one that knows the times of some answers, 10000 ns apart, and the times of the next one.
func able(t *testing.T, c peer.Conf, answers int) (*peer.Peer, times) {
	t.Helper()
	p, x := newPeer(t, c), even
	for range answers {
		talk(t, p, c, x, api.OK)
		x = x.later(10000 * ns)
	}
	return p, x
}

// fails are ways in which a question fails; each of them leaves no question open but the last three.
var fails = []struct {
	name string
	fail func(t *testing.T, p *peer.Peer, c peer.Conf, x times)
}{
	{"by ErrLink", func(t *testing.T, p *peer.Peer, c peer.Conf, x times) {
		x.t1 -= 5000 * ns
		talk(t, p, c, x, api.ErrLink)
	}},
	{"by ErrLink below nothing", func(t *testing.T, p *peer.Peer, c peer.Conf, x times) {
		x.t1 += 5000 * ns
		talk(t, p, c, x, api.ErrLink)
	}},
	{"by ErrRate", func(t *testing.T, p *peer.Peer, c peer.Conf, x times) {
		x.t3 += 5000 * ns
		talk(t, p, c, x, api.ErrRate)
	}},
	{"by ErrArg", func(t *testing.T, p *peer.Peer, c peer.Conf, x times) {
		x.t3 = -1
		talk(t, p, c, x, api.ErrArg)
	}},
	{"by ErrOver", func(t *testing.T, p *peer.Peer, c peer.Conf, x times) {
		x.t1 = least
		talk(t, p, c, x, api.ErrOver)
	}},
	{"by the next one, ahead of Sent", func(t *testing.T, p *peer.Peer, c peer.Conf, x times) {
		ask(t, p)
	}},
	{"by the next one, behind Sent", func(t *testing.T, p *peer.Peer, c peer.Conf, x times) {
		p.Sent(ask(t, p), x.t1)
	}},
	{"by the next one, between the halves", func(t *testing.T, p *peer.Peer, c peer.Conf, x times) {
		halfway(t, p, c, x)
	}},
}

// isLater tells whether the question of a way to fail fails only with the next one.
func isLater(way int) bool { return way >= len(fails)-3 }

// P17.4: as many failed in a row as Lost, and fewer, each in one way.
func TestLost(t *testing.T) {
	for way, f := range fails {
		for _, lost := range []int{1, 2, 3, 5, 100} {
			c := usual()
			c.Lost = lost
			p, x := able(t, c, 3)
			asked := lost
			if isLater(way) {
				asked++ // the last one of them is still open
			}
			for i := 1; i <= asked; i++ {
				f.fail(t, p, c, x)
				if i < asked {
					holdKnown(t, p, rate.One, 200*ns, true)
				}
			}
			holdKnown(t, p, rate.One, 0, false)
			if t.Failed() {
				t.Fatalf("Lost %d, failed %s", lost, f.name)
			}
			// All is new: the next answer is the only mark.
			talk(t, p, c, times{}, api.OK)
			holdKnown(t, p, rate.One, 0, false)
			talk(t, p, c, even, api.ErrRate)
			p.Down()
			talk(t, p, c, even, api.OK)
			talk(t, p, c, even.later(10000*ns), api.OK)
			holdKnown(t, p, rate.One, 200*ns, true)
		}
	}
}

// P17.4: as many as Lost, one behind the other in unlike ways.
func TestLostMixed(t *testing.T) {
	for lost := 1; lost <= 12; lost++ {
		c := usual()
		c.Lost = lost
		p, x := able(t, c, 2)
		for i := range lost {
			holdKnown(t, p, rate.One, 200*ns, true)
			fails[i*3%len(fails)].fail(t, p, c, x)
		}
		// What is still open fails now; the next one fails no more.
		ask(t, p)
		holdKnown(t, p, rate.One, 0, false)
	}
}

// P17.4: one that is answered between others that fail: they aren't in a row.
func TestAnsweredBetween(t *testing.T) {
	for _, lost := range []int{2, 3, 4} {
		for way, f := range fails {
			c := usual()
			c.Lost = lost
			p, x := able(t, c, 2)
			for range 5 {
				for range lost - 1 {
					f.fail(t, p, c, x)
					x = x.later(10000 * ns)
				}
				holdKnown(t, p, rate.One, 200*ns, true)
				talk(t, p, c, x, api.OK)
				x = x.later(10000 * ns)
				holdKnown(t, p, rate.One, 200*ns, true)
			}
			for range lost {
				f.fail(t, p, c, x)
			}
			if isLater(way) {
				ask(t, p)
			}
			holdKnown(t, p, rate.One, 0, false)
		}
	}
}

// P17.4: a first half alone lets nothing count anew.
func TestHalfBetween(t *testing.T) {
	c := usual()
	c.Lost = 3
	p, x := able(t, c, 2)
	for range 3 {
		holdKnown(t, p, rate.One, 200*ns, true)
		halfway(t, p, c, x)
	}
	holdKnown(t, p, rate.One, 200*ns, true)
	ask(t, p)
	holdKnown(t, p, rate.One, 0, false)
}

// P17.4: one mark, then two; others that fail between them, fewer than Lost, and as many.
func TestOneMarkAndFails(t *testing.T) {
	for lost := 1; lost <= 4; lost++ {
		for failed := range lost + 2 {
			c := usual()
			c.Lost = lost
			p, x := able(t, c, 1)
			holdKnown(t, p, rate.One, 0, false)
			for range failed {
				halfway(t, p, c, x)
			}
			// With this one all of those have failed.
			talk(t, p, c, x, api.OK)
			if failed < lost {
				holdKnown(t, p, rate.One, 200*ns, true)
				continue
			}
			holdKnown(t, p, rate.One, 0, false)
			talk(t, p, c, x.later(10000*ns), api.OK)
			holdKnown(t, p, rate.One, 200*ns, true)
		}
	}
}

// P17.4: those that fail ahead of the first mark, more than Lost, don't count behind it.
func TestFailsAhead(t *testing.T) {
	c := usual()
	c.Lost = 2
	for failed := range 7 {
		p := newPeer(t, c)
		for range failed {
			ask(t, p)
		}
		holdKnown(t, p, rate.One, 0, false)
		talk(t, p, c, even, api.OK)
		holdKnown(t, p, rate.One, 0, false)
		talk(t, p, c, even.later(10000*ns), api.OK)
		holdKnown(t, p, rate.One, 200*ns, true)
		fails[0].fail(t, p, c, even.later(20000*ns))
		holdKnown(t, p, rate.One, 200*ns, true)
	}
}

// P17.4: of what was known ahead of as many as Lost nothing is in what is reckoned behind them.
func TestForgotten(t *testing.T) {
	c := usual()
	c.Lost = 1
	p, _ := able(t, c, 5)
	ask(t, p)
	ask(t, p)
	holdKnown(t, p, rate.One, 0, false)
	// By a clock that was set otherwise, and is faster: from the marks ahead it would be another rate.
	x := times{0, 1 << 50, 1<<50 + 1000, 1000 + 600*ns}
	talk(t, p, c, x, api.OK)
	holdKnown(t, p, rate.One, 0, false)
	d := stamp.Stamp(128 * 10000 * ns)
	x = times{x.t1 + d, x.t2 + d/128*129, x.t3 + d/128*129, x.t4 + d}
	talk(t, p, c, x, api.OK)
	holdKnown(t, p, rate.One+rate.Most, 300*ns+4, true)
}

// P17.4: Down: in each stage of a question, with marks and without; nothing is left but the Seq.
func TestDown(t *testing.T) {
	for _, answers := range []int{0, 1, 2, 5, 9} {
		for stage := range 4 {
			c := usual()
			p, x := able(t, c, answers)
			seq := answers
			if stage > 0 {
				seq = ask(t, p)
			}
			if stage > 1 {
				p.Sent(seq, x.t1)
			}
			if stage > 2 {
				holdIn(t, p, resp(c, seq, x.t2), x.t4, api.OK)
			}
			p.Down()
			holdKnown(t, p, rate.One, 0, false)
			// The question isn't open any more.
			p.Sent(seq, x.t1)
			holdIn(t, p, resp(c, seq, x.t2), x.t4, api.ErrOrder)
			holdIn(t, p, respMore(c, seq, x.t3), 0, api.ErrOrder)
			p.Down()
			if next := ask(t, p); next != seq+1 {
				t.Errorf("behind Seq %d and Down comes Seq %d", seq, next)
			}
			// All else is as new: two answers are needed, by a clock that may have been set.
			talk(t, p, c, times{0, 1 << 50, 1<<50 + 1000, 1000 + 400*ns}, api.OK)
			holdKnown(t, p, rate.One, 0, false)
			talk(t, p, c, times{1 << 40, 1<<50 + 1<<40, 1<<50 + 1<<40 + 1000, 1<<40 + 1000 + 400*ns}, api.OK)
			holdKnown(t, p, rate.One, 200*ns, true)
		}
	}
}

// P17.4: the setup holds behind Down, too.
func TestDownSetup(t *testing.T) {
	c := peer.Conf{Id: 77, Port: 66, Most: 200 * ns, Slack: 5, Window: 1, Lost: 2}
	p := newPeer(t, c)
	p.Down()
	if m, ok := p.Ask(); !ok || m.Seq != 1 || m.Src != 77 || m.Port != 66 {
		t.Errorf("behind Down Ask is %v, %v", m, ok)
	}
	talk(t, p, c, even, api.OK)
	x := even.later(10000 * ns)
	talk(t, p, c, x, api.OK)
	holdKnown(t, p, rate.One, 200*ns, true)
	x = x.later(10000 * ns)
	x.t1 -= 2
	talk(t, p, c, x, api.ErrLink)
	holdKnown(t, p, rate.One, 200*ns, true)
	x = x.later(10000 * ns)
	x.t1 += 2 + 400*ns + 6
	talk(t, p, c, x, api.ErrLink)
	holdKnown(t, p, rate.One, 0, false)
}
