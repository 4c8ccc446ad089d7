package sync_test

import (
	"testing"

	"sandglass/api"
	"sandglass/ptp"
	"sandglass/rate"
	"sandglass/stamp"
)

// wrongs are messages like a right one, each with something that isn't right.
func wrongs(m ptp.Msg) []ptp.Msg {
	sets := []func(m *ptp.Msg){
		func(m *ptp.Msg) { m.Domain = -1 },
		func(m *ptp.Msg) { m.Domain = 128 },
		func(m *ptp.Msg) { m.Domain += 256 },
		func(m *ptp.Msg) { m.Seq = -1 },
		func(m *ptp.Msg) { m.Seq = 65536 },
		func(m *ptp.Msg) { m.Src = -1 },
		func(m *ptp.Msg) { m.Src = mostId + 1 },
		func(m *ptp.Msg) { m.Port = -1 },
		func(m *ptp.Msg) { m.Port = 65536 },
		func(m *ptp.Msg) { m.To = 1 },
		func(m *ptp.Msg) { m.ToPort = 1 },
		func(m *ptp.Msg) { m.Best.Two = 1 },
		func(m *ptp.Msg) { m.Best.Id = 1 },
		func(m *ptp.Msg) { m.Steps = 1 },
		func(m *ptp.Msg) { m.Path = []int{1} },
		func(m *ptp.Msg) { m.Path = make([]int, 40) },
	}
	if m.Kind == ptp.Sync {
		sets = append(sets, func(m *ptp.Msg) { m.Time = 1 }, func(m *ptp.Msg) { m.Rate = one })
	}
	var list []ptp.Msg
	for _, set := range sets {
		n := m
		set(&n)
		list = append(list, n)
	}
	return list
}

// others are messages like another one, but of all other kinds, as they are and with nothing that not all have.
func others(m ptp.Msg) []ptp.Msg {
	var list []ptp.Msg
	for _, kind := range []int{ptp.Req, ptp.Sync, ptp.Resp, ptp.Follow, ptp.RespMore, ptp.Announce, 1, 4, 9, 12, 16, 24, -1, 1 << 32, most, least} {
		if kind != m.Kind {
			n := m
			n.Kind = kind
			list = append(list, n, ptp.Msg{Kind: kind, Domain: m.Domain, Seq: m.Seq, Src: m.Src, Port: m.Port})
		}
	}
	return list
}

// elsewhere are right messages like another one, of other domains.
func elsewhere(m ptp.Msg) []ptp.Msg {
	var list []ptp.Msg
	for domain := range 128 {
		if domain != m.Domain {
			n := m
			n.Domain = domain
			list = append(list, n)
		}
	}
	return list
}

// P18.3: a Sync that isn't a right one of the domain is refused; one that is open stays so.
func TestSyncRefuses(t *testing.T) {
	for _, domain := range []int{0, 1, 127} {
		c := newClock(t, domain)
		right := mark(domain, 5, 9)
		list := append(append(wrongs(right), others(right)...), elsewhere(right)...)
		for _, m := range list {
			holdSync(t, c, m, 700, api.ErrOrder)
			holdFollow(t, c, follow(domain, 5, 9, 100, 0, one), 0, one, api.ErrOrder)
		}
		holdUnknown(t, c)
		holdSync(t, c, right, 600, api.OK)
		for _, m := range list {
			holdSync(t, c, m, 700, api.ErrOrder)
		}
		holdUnknown(t, c)
		holdFollow(t, c, follow(domain, 5, 9, 100, 0, one), 0, one, api.OK)
		holdAt(t, c, 600, 100)
	}
}

// P18.3: clocks of domains that no right message has are told nothing.
func TestSyncOfNoDomain(t *testing.T) {
	for _, domain := range domains {
		if domain >= 0 && domain <= 127 {
			continue
		}
		c := newClock(t, domain)
		for _, m := range append(elsewhere(mark(domain, 5, 9)), mark(domain, 5, 9)) {
			holdSync(t, c, m, 600, api.ErrOrder)
			holdFollow(t, c, follow(m.Domain, 5, 9, 100, 0, one), 0, one, api.ErrOrder)
		}
		holdUnknown(t, c)
	}
}

// P18.3: where the own clock is the domain's neither a Sync nor a Follow is taken.
func TestSyncOwn(t *testing.T) {
	c := told(t, one+1<<34)
	c.Own(true, 1000*ns)
	holdSync(t, c, mark(1, 5, 9), 2000*ns, api.ErrOrder)
	holdFollow(t, c, follow(1, 5, 9, 0, 0, one), 0, one, api.ErrOrder)
	holdAt(t, c, 1500*ns, 7550*ns)
	c.Own(false, 1500*ns)
	holdFollow(t, c, follow(1, 5, 9, 0, 0, one), 0, one, api.ErrOrder)
	holdAt(t, c, 1500*ns, 7550*ns)
	holdFresh(t, c, 1500*ns, 0, true)
	holdFresh(t, c, 1500*ns+1, 0, false)
}

// P18.3: of a Sync all but its domain, Seq and Src is as it may be; it alone tells nothing.
func TestSyncTakes(t *testing.T) {
	for i, at := range ends {
		c := told(t, one)
		m := ptp.Msg{Kind: ptp.Sync, Domain: 1, Seq: 65535 * (i % 2), Src: mostId * (i / 2 % 2), Port: mostPort * (i / 4 % 2), Corr: ends[len(ends)-1-i], Path: []int{}}
		holdSync(t, c, m, at, api.OK)
		holdAt(t, c, 1000*ns, 7050*ns)
		holdFresh(t, c, 1000*ns, 0, true)
		holdFresh(t, c, 1000*ns+1, 0, false)
		f := follow(1, m.Seq, m.Src, -77, 0, one+5)
		f.Port, f.Path = 44, []int{}
		holdFollow(t, c, f, 0, one, api.OK)
		holdAt(t, c, at, -77)
		holdRate(t, c, one+5)
		holdFresh(t, c, at, 0, true)
	}
}

// P18.3: a Follow that isn't a right one, or not for the Sync that is open, is refused; that stays open, and what is known.
func TestFollowRefuses(t *testing.T) {
	for _, domain := range []int{0, 1, 127} {
		c := newClock(t, domain)
		right := follow(domain, 500, 900, 100, 7, one)
		list := append(append(wrongs(right), others(right)...), elsewhere(right)...)
		for _, d := range []int{-1, 1, 400, -400} {
			m, n, both := right, right, right
			m.Seq += d
			n.Src += d
			both.Seq, both.Src = both.Seq+d, both.Src-d
			list = append(list, m, n, both)
		}
		turned := right
		turned.Seq, turned.Src = right.Src, right.Seq
		list = append(list, turned, ptp.Msg{})
		for _, m := range append(list, right) {
			holdFollow(t, c, m, 50, one, api.ErrOrder)
		}
		holdUnknown(t, c)
		holdSync(t, c, mark(domain, 500, 900), 600, api.OK)
		for _, m := range list {
			holdFollow(t, c, m, 50, one, api.ErrOrder)
			// Whatever else there is to be said of it.
			holdFollow(t, c, m, most, -5, api.ErrOrder)
		}
		holdUnknown(t, c)
		holdFollow(t, c, right, 50, one, api.OK)
		holdAt(t, c, 600, 157)
		for _, m := range append(list, right) {
			holdFollow(t, c, m, 60, one, api.ErrOrder)
		}
		holdAt(t, c, 600, 157)
	}
}

// P18.3: a Sync in the place of one that was open: of another Seq, of another Src, and the same once more at another time.
func TestSyncAgain(t *testing.T) {
	c := newClock(t, 1)
	holdSync(t, c, mark(1, 5, 9), 600, api.OK)
	holdSync(t, c, mark(1, 6, 9), 700, api.OK)
	holdFollow(t, c, follow(1, 5, 9, 100, 0, one), 0, one, api.ErrOrder)
	holdFollow(t, c, follow(1, 6, 9, 200, 0, one), 0, one, api.OK)
	holdAt(t, c, 700, 200)
	holdSync(t, c, mark(1, 7, 9), 800, api.OK)
	holdSync(t, c, mark(1, 7, 8), 900, api.OK)
	holdFollow(t, c, follow(1, 7, 9, 300, 0, one), 0, one, api.ErrOrder)
	holdFollow(t, c, follow(1, 7, 8, 400, 0, one), 0, one, api.OK)
	holdAt(t, c, 900, 400)
	holdSync(t, c, mark(1, 7, 8), 1000, api.OK)
	holdSync(t, c, mark(1, 7, 8), 1100, api.OK)
	holdFollow(t, c, follow(1, 7, 8, 500, 0, one), 0, one, api.OK)
	holdAt(t, c, 1100, 500)
	holdFollow(t, c, follow(1, 7, 8, 500, 0, one), 0, one, api.ErrOrder)
	// The same Seq and Src may come again.
	holdSync(t, c, mark(1, 7, 8), 100, api.OK)
	holdFollow(t, c, follow(1, 7, 8, 600, 0, one), 0, one, api.OK)
	holdAt(t, c, 100, 600)
	holdFresh(t, c, 105, 5, true)
	holdFresh(t, c, 106, 5, false)
}

// P18.3: what a Follow tells: Time and Corr, and the delay by m's Rate times the ratio.
func TestFollow(t *testing.T) {
	const more = 1 << 34
	for _, x := range []struct {
		time, corr, delay stamp.Stamp
		r, ratio          rate.Rate
		want              stamp.Stamp
		rate              rate.Rate
	}{
		{7000, 0, 0, one, one, 7000, one},
		{7000, 30, 0, one, one, 7030, one},
		{7000, -30, 5, one, one, 6975, one},
		{7000, 30, 128, one + more, one, 7159, one + more},
		{7000, 30, 128, one, one + more, 7159, one + more},
		{7000, 30, 128, one - more, one, 7157, one - more},
		{7000, 30, -128, one + more, one, 6901, one + more},
		{-7000, -30, 192, one + more, one, -6836, one + more},
		// 129/128 times 127/128 is One less one part in 2^14.
		{0, 0, 1 << 14, one + more, one - more, 1<<14 - 1, one - 1<<27},
		{0, 0, 1 << 14, one - more, one + more, 1<<14 - 1, one - 1<<27},
		// 5 parts more, and 3 less: the product of both is far less than half a part.
		{0, 0, 0, one + 5, one - 3, 0, one + 2},
		// 2 by (One by half): a rate may be told by two that aren't right.
		{0, 0, 100, 2 * one, one / 2, 100, one},
		{0, 0, 100, -one, -one, 100, one},
		{0, 0, 128, 2 * (one + more), one / 2, 129, one + more},
		{most - 10, 10, 0, one, one, most, one},
		{least + 10, -10, 0, one, one, least, one},
		{most, -10, 10, one, one, most, one},
		{most - 10, 0, 10, one, one, most, one},
		{least, 0, most, one, one, -1, one},
		{most, least, 0, one, one, -1, one},
	} {
		c := newClock(t, 1)
		holdSync(t, c, mark(1, 4, 9), 1000*ns, api.OK)
		holdFollow(t, c, follow(1, 4, 9, x.time, x.corr, x.r), x.delay, x.ratio, api.OK)
		holdAt(t, c, 1000*ns, x.want)
		holdRate(t, c, x.rate)
		holdFresh(t, c, 1000*ns, 0, true)
		holdFresh(t, c, 1000*ns+1, 0, false)
	}
}

// P18.3: each error, just so that there is none, and of two the first; the Sync isn't open behind it, and nothing else is changed.
func TestFollowErrors(t *testing.T) {
	const more = 1 << 34
	for _, x := range []struct {
		what              string
		time, corr, delay stamp.Stamp
		r, ratio          rate.Rate
		want              api.Errno
	}{
		{"the product doesn't fit", 0, 0, 0, 1 << 62, 1 << 43, api.ErrOver},
		{"nor below nought", 0, 0, 0, -1 << 62, 1<<42 + 1, api.ErrOver},
		{"of the greatest", 0, 0, 0, most, most, api.ErrOver},
		{"of the least", 0, 0, 0, least, least, api.ErrOver},
		{"the product just fits", 0, 0, 0, most, one, api.ErrRate},
		{"and below nought", 0, 0, 0, least, one, api.ErrRate},
		{"a rate of none", 0, 0, 0, 0, one, api.ErrRate},
		{"a ratio of none", 0, 0, 0, one, 0, api.ErrRate},
		{"a rate of 5", 0, 0, 0, 5, one, api.ErrRate},
		{"below nought", 0, 0, 0, -one, one, api.ErrRate},
		{"the greatest rate", 0, 0, 0, one + more, one, api.OK},
		{"one above", 0, 0, 0, one + more + 1, one, api.ErrRate},
		{"one above by the ratio", 0, 0, 0, one, one + more + 1, api.ErrRate},
		{"by both", 0, 0, 0, one + more, one + 1, api.ErrRate},
		{"one right by two that aren't", 0, 0, 0, 4 * one, one / 4, api.OK},
		{"the least rate", 0, 0, 0, one - more, one, api.OK},
		{"one below", 0, 0, 0, one - more - 1, one, api.ErrRate},
		{"one below by the ratio", 0, 0, 0, one, one - more - 1, api.ErrRate},

		{"Time and Corr", most, 1, 0, one, one, api.ErrOver},
		{"Time and Corr, at their greatest", most, most, 0, one, one, api.ErrOver},
		{"Time and Corr, below", least, -1, 0, one, one, api.ErrOver},
		{"they don't fit, though all three would", most, 1, -1, one, one, api.ErrOver},
		{"they don't fit below, though all three would", least, -1, 1, one, one, api.ErrOver},
		{"the delay by the rate", 0, 0, most, one + more, one, api.ErrOver},
		{"the delay by the rate, below", 0, 0, least, one + more, one, api.ErrOver},
		{"it doesn't fit, though with Time it would", least, 0, most, one + more, one, api.ErrOver},
		{"it just fits", -10, 0, most, one, one, api.OK},
		{"it fits by a lesser rate", 0, 0, most, one - more, one, api.OK},
		{"the sum", most, 0, 1, one, one, api.ErrOver},
		{"the sum of three", most - 10, 5, 6, one, one, api.ErrOver},
		{"the sum, below", least + 10, -5, -6, one, one, api.ErrOver},
		{"the sum, as the delay is longer by the rate", most - 128, 0, 128, one + more, one, api.ErrOver},
		{"the sum just fits", most - 129, 0, 128, one + more, one, api.OK},

		{"ErrOver, then ErrOver", most, 1, most, most, most, api.ErrOver},
		{"ErrRate, then Time and Corr", most, 1, 0, one + more + 1, one, api.ErrRate},
		{"ErrRate, then the delay", 0, 0, most, 2 * one, one, api.ErrRate},
		{"ErrRate, then the sum", most, 0, 1, one - more - 1, one, api.ErrRate},
		{"ErrRate, then all", most, most, most, 2 * one, one, api.ErrRate},
	} {
		c := told(t, one+77)
		holdSync(t, c, mark(1, 5, 9), 2000*ns, api.OK)
		m := follow(1, 5, 9, x.time, x.corr, x.r)
		if err := c.Follow(m, x.delay, x.ratio); err != x.want {
			t.Errorf("%s: %d, not %d", x.what, err, x.want)
		}
		if x.want == api.OK {
			holdFresh(t, c, 2000*ns, 0, true)
			holdFresh(t, c, 2000*ns+1, 0, false)
			continue
		}
		holdFollow(t, c, follow(1, 5, 9, 0, 0, one), 0, one, api.ErrOrder)
		holdAt(t, c, 1000*ns, 7050*ns)
		holdRate(t, c, one+77)
		holdFresh(t, c, 1000*ns, 0, true)
		holdFresh(t, c, 1000*ns+1, 0, false)
		// Where nothing is known, nothing is known then.
		c = newClock(t, 1)
		holdSync(t, c, mark(1, 5, 9), 2000*ns, api.OK)
		holdFollow(t, c, m, x.delay, x.ratio, x.want)
		holdFollow(t, c, m, x.delay, x.ratio, api.ErrOrder)
		holdUnknown(t, c)
	}
}
