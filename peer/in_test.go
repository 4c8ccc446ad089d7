package peer_test

import (
	"testing"

	"sandglass/api"
	"sandglass/peer"
	"sandglass/ptp"
	"sandglass/rate"
	"sandglass/stamp"
)

// even are the times of the chapter's example.
var even = times{1000 * ns, 5000 * ns, 6000 * ns, 2400 * ns}

// P17.3: the example.
func TestExample(t *testing.T) {
	c := usual()
	p := newPeer(t, c)
	talk(t, p, c, even, api.OK)
	talk(t, p, c, even.later(10000*ns), api.OK)
	holdKnown(t, p, rate.One, 200*ns, true)
}

// P17.3: the halves of answers while no question is open, or its t1 isn't known.
func TestInWithoutQuestion(t *testing.T) {
	c := usual()
	p := newPeer(t, c)
	refuse := func() {
		t.Helper()
		for seq := range 5 {
			holdIn(t, p, resp(c, seq, 5000), 1000, api.ErrOrder)
			holdIn(t, p, respMore(c, seq, 5000), 1000, api.ErrOrder)
		}
	}
	refuse()
	seq := ask(t, p)
	refuse()
	p.Sent(seq, 1000)
	holdIn(t, p, resp(c, seq, 5000), 1000, api.OK)
	holdIn(t, p, respMore(c, seq, 5000), 0, api.OK)
	refuse()
	// One that has failed by an error is closed.
	talk(t, p, c, times{1000, 5000, 5000, 1000}, api.ErrZero)
	refuse()
	// One that has failed by the next one is closed, too; the next one's t1 isn't known.
	halfway(t, p, c, even)
	ask(t, p)
	refuse()
	p.Down()
	refuse()
	holdKnown(t, p, rate.One, 0, false)
}

// strange are messages like a right half for a question, none of which is one for it.
func strange(m ptp.Msg) []ptp.Msg {
	list := append(wrongs(m), others(m)...)
	for _, d := range []int{-1, 1, 2, 1000} {
		n := m
		n.Seq += d
		list = append(list, n)
		n = m
		n.To += d
		list = append(list, n)
		n = m
		n.ToPort += d
		list = append(list, n)
	}
	n := m
	n.To, n.ToPort = m.ToPort, m.To
	list = append(list, n)
	n.To, n.ToPort = m.Src, m.Port
	return append(list, n, ptp.Msg{})
}

// P17.3: what isn't a half for the open question is refused, in each of its stages, and changes nothing.
func TestInRefuses(t *testing.T) {
	c := usual()
	c.Id, c.Port = 5000, 3000
	p := newPeer(t, c)
	for range 5 {
		talk(t, p, c, even, api.OK)
		p.Down()
	}
	x := even
	for i := range 2 {
		seq := ask(t, p)
		first, second := resp(c, seq, x.t2), respMore(c, seq, x.t3)
		refuse := func(list ...ptp.Msg) {
			t.Helper()
			for _, m := range list {
				// What isn't the first half that is due may be the second one that is, and the other way round.
				if m.Check() == api.OK && m.Seq == seq && m.To == c.Id && m.ToPort == c.Port {
					continue
				}
				holdIn(t, p, m, x.t4-5*ns, api.ErrOrder)
			}
			holdKnown(t, p, rate.One, 0, false)
		}
		refuse(strange(first)...)
		holdIn(t, p, first, x.t4, api.ErrOrder)
		holdIn(t, p, second, x.t4, api.ErrOrder)
		p.Sent(seq, x.t1)
		refuse(strange(first)...)
		refuse(strange(second)...)
		holdIn(t, p, second, x.t4, api.ErrOrder)
		holdIn(t, p, first, x.t4, api.OK)
		refuse(strange(first)...)
		refuse(strange(second)...)
		holdIn(t, p, first, x.t4, api.ErrOrder)
		holdIn(t, p, resp(c, seq, x.t2+100*ns), x.t4+300*ns, api.ErrOrder)
		holdIn(t, p, second, 0, api.OK)
		holdIn(t, p, second, 0, api.ErrOrder)
		holdIn(t, p, first, x.t4, api.ErrOrder)
		x = x.later(10000 * ns)
		holdKnown(t, p, rate.One, stamp.Stamp(i)*200*ns, i > 0)
	}
}

// P17.3: other kinds that are right, with what a half has, as far as they have it.
func TestInOtherKinds(t *testing.T) {
	c := peer.Conf{Most: 1000 * ns, Slack: 10 * ns, Window: 4, Lost: 3}
	p := newPeer(t, c)
	refuse := func(seq int) {
		t.Helper()
		for _, m := range []ptp.Msg{{Kind: ptp.Req}, {Kind: ptp.Sync}, {Kind: ptp.Follow}, {Kind: ptp.Follow, Time: 5000 * ns, Rate: rate.One}, {Kind: ptp.Announce}} {
			m.Seq, m.Src, m.Port = seq, 9, 2
			if m.Check() != api.OK {
				t.Errorf("%v isn't right", m)
			}
			holdIn(t, p, m, 2400*ns, api.ErrOrder)
		}
	}
	x := even
	for range 2 {
		refuse(0)
		seq := ask(t, p)
		refuse(seq)
		p.Sent(seq, x.t1)
		refuse(seq)
		holdIn(t, p, resp(c, seq, x.t2), x.t4, api.OK)
		refuse(seq)
		holdIn(t, p, respMore(c, seq, x.t3), 0, api.OK)
		refuse(seq)
		x = x.later(10000 * ns)
	}
	holdKnown(t, p, rate.One, 200*ns, true)
}

// P17.3: whose the halves are, and what else stands in them, isn't asked, nor when the second one came.
func TestInTakes(t *testing.T) {
	for _, c := range ends() {
		p := newPeer(t, c)
		x := even
		for i, at := range []stamp.Stamp{0, least, most, -1} {
			seq := ask(t, p)
			p.Sent(seq, x.t1)
			first, second := resp(c, seq, x.t2), respMore(c, seq, x.t3)
			first.Domain, first.Src, first.Port, first.Corr, first.Path = 3, mostId, 0, 1<<40, []int{}
			second.Domain, second.Src, second.Port, second.Corr = 127-i, i, mostPort, -1<<40
			holdIn(t, p, first, x.t4, api.OK)
			holdIn(t, p, second, at, api.OK)
			x = x.later(10000 * ns)
		}
		holdKnown(t, p, rate.One, 200*ns, true)
	}
}

// P17.3: of the only mark nothing is reckoned, whatever its times are.
func TestOnlyMark(t *testing.T) {
	c := peer.Conf{Window: 1, Lost: 1}
	for _, x := range []times{
		even, {}, {1, 0, 0, 0}, {0, 0, 0, mostTime}, {0, 0, 5, 0}, {0, 5, 0, 0},
		{least, 0, 0, most}, {most, 0, 0, least}, {0, least, most, 0}, {0, most, least, 0},
		{most, most, most, most}, {least, least, least, least}, {most, least, most, least}, {least, most, least, most},
	} {
		p := newPeer(t, c)
		talk(t, p, c, x, api.OK)
		holdKnown(t, p, rate.One, 0, false)
	}
	// It is a mark all the same: the next one is reckoned from it.
	p := newPeer(t, c)
	talk(t, p, c, times{least, most, 5000 * ns, 1000 * ns}, api.OK)
	talk(t, p, c, times{3000 * ns, 7000 * ns, 7000 * ns, 3000 * ns}, api.OK)
	holdKnown(t, p, rate.One, 0, true)
}

// P17.3: the rate is reckoned from the mark that is as many answers ahead as Window, or from the first one there is.
func TestWindow(t *testing.T) {
	for _, window := range []int{1, 2, 3, 4, 5, 8, 31, 32} {
		c := usual()
		c.Window = window
		p := newPeer(t, c)
		var marks []times
		x := even
		for i := range 3*window + 3 {
			talk(t, p, c, x, api.OK)
			marks = append(marks, x)
			if i == 0 {
				holdKnown(t, p, rate.One, 0, false)
			} else {
				first := marks[max(0, i-window)]
				want, err := rate.Between(int(x.t3-first.t3), int(x.t4-first.t4))
				if err != api.OK || p.Rate() != want || !p.Able() {
					t.Errorf("of Window %d, behind answer %d the rate is %d, not %d, %d", window, i+1, int(p.Rate()), int(want), err)
				}
			}
			// No two steps are by the same rate.
			step := stamp.Stamp(100000+i*i) * ns
			ahead := step + step/10000*stamp.Stamp(i*i%7-3)
			x = times{x.t1 + step, x.t2 + ahead, x.t3 + ahead, x.t4 + step}
		}
	}
}

// P17.3: those that have failed are no marks, and count for nothing in the Window.
func TestWindowFailed(t *testing.T) {
	c := usual()
	c.Window, c.Lost = 2, 10
	p := newPeer(t, c)
	talk(t, p, c, even, api.OK)
	for _, step := range []stamp.Stamp{1, 2, 3} {
		x := even.later(step * 1000000 * ns)
		x.t4 += 100000 * ns
		talk(t, p, c, x, api.ErrRate)
		halfway(t, p, c, x)
	}
	x := even.later(10000000 * ns)
	x.t2, x.t3 = x.t2+1000*ns, x.t3+1000*ns
	talk(t, p, c, x, api.OK)
	want, _ := rate.Between(10001000*ns, 10000000*ns)
	if p.Rate() != want || !p.Able() {
		t.Errorf("the rate is %d, not %d", int(p.Rate()), int(want))
	}
}

// P17.3: the delay by another clock's rate: what it took to answer is turned to the own clock's time.
func TestDelayByRate(t *testing.T) {
	for _, x := range []struct {
		more  stamp.Stamp // by how much the other clock comes further in 2^41
		stay  stamp.Stamp // by the other clock
		whole stamp.Stamp
		delay stamp.Stamp
	}{
		{0, 1000, 1400, 200},
		{0, 1000, 1401, 200},
		{0, 1000, 1399, 199},
		// A rate of 129/128: 129 of the other one are 128 of the own one.
		{1 << 34, 129000, 128400, 200},
		{1 << 34, 129000, 129000, 500},
		{1 << 34, 129064, 128463, 199}, // 128063.5, to the even one 128064
		{1 << 34, 129063, 128463, 200},
		// A rate of 127/128.
		{-1 << 34, 127000, 128400, 200},
		{-1 << 34, 127000, 128001, 0},
		{-1 << 34, 127000, 128002, 1},
	} {
		c := usual()
		p := newPeer(t, c)
		talk(t, p, c, times{}, api.OK)
		t3, t4 := stamp.Stamp(1<<41)+x.more, stamp.Stamp(1<<41)
		talk(t, p, c, times{t4 - x.whole, t3 - x.stay, t3, t4}, api.OK)
		holdKnown(t, p, rate.One+rate.Rate(x.more), x.delay, true)
	}
}

// bothWays are times whose rate is One behind a mark at 0, by which both ways together took so long.
func bothWays(both stamp.Stamp) times {
	return times{1<<50 - 1000 - both, 1<<50 - 1000, 1 << 50, 1 << 50}
}

// P17.3: below nothing by no more than Slack is nothing; below that, or above Most, it is refused.
func TestSlackAndMost(t *testing.T) {
	for _, slack := range []stamp.Stamp{0, 1, 2, 3, 10 * ns, mostTime - 1, mostTime} {
		for _, far := range []stamp.Stamp{0, 1, 2, 3, 1000 * ns, mostTime - 1, mostTime} {
			c := peer.Conf{Most: far, Slack: slack, Window: 2, Lost: 2}
			hold := func(both stamp.Stamp, want api.Errno, delay stamp.Stamp) {
				t.Helper()
				p := newPeer(t, c)
				talk(t, p, c, times{}, api.OK)
				talk(t, p, c, bothWays(both), want)
				holdKnown(t, p, rate.One, delay, want == api.OK)
			}
			for _, both := range []stamp.Stamp{0, 1, 2, 3, slack / 2, slack - 1, slack} {
				if both >= 0 && both <= slack {
					hold(-both, api.OK, 0)
				}
			}
			for _, both := range []stamp.Stamp{slack + 1, slack + 2, slack + 3, 2*slack + 2, 1 << 60} {
				hold(-both, api.ErrLink, 0)
			}
			for _, delay := range []stamp.Stamp{0, 1, far / 2, far - 1, far} {
				if delay >= 0 && delay <= far {
					hold(2*delay, api.OK, delay)
					hold(2*delay+1, api.OK, delay)
				}
			}
			for _, both := range []stamp.Stamp{2*far + 2, 2*far + 3, 2*far + 4, 4*far + 4, 1 << 60} {
				hold(both, api.ErrLink, 0)
			}
		}
	}
}

// P17.3: the errors of the rate and of the delay, and of two the rate's; the first mark is -10 by both clocks.
func TestErrors(t *testing.T) {
	const far, off = 1 << 41, 1 << 34
	c := peer.Conf{Most: mostTime, Slack: mostTime, Window: 3, Lost: 5}
	for _, x := range []struct {
		what string
		x    times
		want api.Errno
	}{
		{"t3 is ahead of the mark's", times{0, -11, -11, 1}, api.ErrArg},
		{"t4 is ahead of the mark's", times{-11, 1, 1, -11}, api.ErrArg},
		{"both are", times{-11, -11, -11, -11}, api.ErrArg},
		{"t3 is far ahead", times{0, 0, least, 0}, api.ErrArg},
		{"t4 is the mark's", times{-10, 0, 0, -10}, api.ErrZero},
		{"t3 is, too", times{-10, -10, -10, -10}, api.ErrZero},
		{"a rate that doesn't fit", times{-8, 1 << 40, 1 << 40, -8}, api.ErrOver},
		{"a rate that just fits", times{-9, 1<<22 - 12, 1<<22 - 12, -9}, api.ErrRate},
		{"t3 stands", times{0, -10, -10, 0}, api.ErrRate},
		{"a rate of 2", times{0, 10, 10, 0}, api.ErrRate},
		{"a rate of half", times{90, 40, 40, 90}, api.ErrRate},
		{"the greatest rate", times{far - 10, far + off - 10, far + off - 10, far - 10}, api.OK},
		{"one above", times{far - 10, far + off - 9, far + off - 9, far - 10}, api.ErrRate},
		{"the least rate", times{far - 10, far - off - 10, far - off - 10, far - 10}, api.OK},
		{"one below", times{far - 10, far - off - 11, far - off - 11, far - 10}, api.ErrRate},
		{"how far t3 went just fits", times{most - 10, most - 10, most - 10, most - 10}, api.OK},
		{"how far t3 went doesn't fit", times{most - 10, most - 9, most - 9, most - 10}, api.ErrOver},
		{"how far t4 went doesn't fit", times{most - 9, most - 10, most - 10, most - 9}, api.ErrOver},
		{"nor t3", times{most, most, most, most}, api.ErrOver},
		{"t3's doesn't fit, t4 is ahead", times{0, most, most, -11}, api.ErrOver},
		{"t4's doesn't fit, t3 is ahead", times{most, -11, -11, most}, api.ErrOver},
		{"t3's doesn't fit, t4 is the mark's", times{-10, most, most, -10}, api.ErrOver},

		{"t4 less t1 just fits", times{far - most, far - most, far, far}, api.OK},
		{"t4 less t1 doesn't", times{far - most - 1, far - most, far, far}, api.ErrOver},
		{"t3 less t2 doesn't", times{far - most, far - most - 1, far, far}, api.ErrOver},
		{"neither fits", times{least, least, far, far}, api.ErrOver},
		{"t3 less t2 doesn't fit by a lesser rate", times{0, far - off - 10 - most, far - off - 10, far - 10}, api.ErrOver},
		{"it does by a greater one", times{far - 10 - most/129*128, far + off - 10 - most, far + off - 10, far - 10}, api.OK},
		{"the delay's double doesn't fit", times{far + 10, far - most, far, far}, api.ErrOver},
		{"it doesn't, being too great", times{far - most, far + 10, far, far}, api.ErrOver},
		{"it just fits", times{far + 1, far - most, far, far}, api.ErrLink},
		{"it is the greatest that fits", times{far - most, far, far, far}, api.ErrLink},

		{"ErrArg, then ErrOver", times{least, 0, -11, 1}, api.ErrArg},
		{"ErrArg, then ErrOver of t3", times{0, least, 1, -11}, api.ErrArg},
		{"ErrZero, then ErrOver", times{0, least, 1, -10}, api.ErrZero},
		{"ErrRate, then ErrOver", times{least, 0, 10, 0}, api.ErrRate},
		{"ErrArg, then ErrLink", times{-1 << 50, -11, -11, 1}, api.ErrArg},
		{"ErrZero, then ErrLink", times{1 << 50, 1, 1, -10}, api.ErrZero},
		{"ErrRate, then ErrLink", times{-1 << 50, 10, 10, 0}, api.ErrRate},
		{"ErrOver, then ErrLink", times{1 << 50, 1 << 40, 1 << 40, -8}, api.ErrOver},
	} {
		p := newPeer(t, c)
		talk(t, p, c, times{-10, -10, -10, -10}, api.OK)
		seq := halfway(t, p, c, x.x)
		if err := p.In(respMore(c, seq, x.x.t3), 0); err != x.want {
			t.Errorf("%s: %d, not %d", x.what, err, x.want)
		}
		if x.want == api.OK {
			continue
		}
		// The question is closed, nothing else is changed: the next one is reckoned from the mark.
		holdIn(t, p, resp(c, seq, x.x.t2), 0, api.ErrOrder)
		holdIn(t, p, respMore(c, seq, x.x.t3), 0, api.ErrOrder)
		holdKnown(t, p, rate.One, 0, false)
		talk(t, p, c, times{far - 10, far + off/2 - 10, far + off/2 - 10, far + 90}, api.OK)
		r, _ := rate.Between(far+off/2, far+100)
		holdKnown(t, p, r, 50, true)
		seq = halfway(t, p, c, x.x)
		if err := p.In(respMore(c, seq, x.x.t3), 0); err != x.want {
			t.Errorf("%s, behind two marks: %d, not %d", x.what, err, x.want)
		}
		holdKnown(t, p, r, 50, true)
	}
}
