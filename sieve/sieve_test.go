package sieve_test

import (
	"math"
	"slices"
	"testing"

	"sandglass/api"
	"sandglass/gates"
	"sandglass/meter"
	"sandglass/sieve"
)

const (
	most     = math.MaxInt
	least    = math.MinInt
	maxTime  = 1 << 40
	mostBits = 1 << 33
	second   = 1_000_000_000
)

// bare is a stream of VLAN 5 and an address, with no gate, no meter, and nothing else.
func bare(m api.Mac) sieve.Stream {
	return sieve.Stream{Port: -1, Vid: 5, Mac: m, Gate: -1, Prio: -1, Rate: -1}
}

// mac is one of many addresses.
func mac(x byte) api.Mac { return api.Mac{2, 0, 0, 0, 0, x} }

// shutAfter is a list that is open for so many nanoseconds of ten.
func shutAfter(open int) gates.List {
	return gates.List{Cycle: 10, Slots: []gates.Slot{{Open: 1, Len: open}, {Open: 254, Len: 1}}}
}

// newSieve is a sieve that must be there, at 0.
func newSieve(t *testing.T, ss []sieve.Stream, gs []gates.List, ms []meter.Conf) *sieve.Sieve {
	t.Helper()
	s, err := sieve.New(ss, gs, ms, 0)
	if err != api.OK || s == nil {
		t.Fatalf("New(%v, %v, %v, 0) is a sieve: %v, %d", ss, gs, ms, s != nil, err)
	}
	return s
}

// holdNew holds a New against its error.
func holdNew(t *testing.T, ss []sieve.Stream, gs []gates.List, ms []meter.Conf, now int, want api.Errno) {
	t.Helper()
	s, err := sieve.New(ss, gs, ms, now)
	if err != want || (s != nil) != (want == api.OK) {
		t.Errorf("New(%v, %v, %v, %d) is a sieve: %v, %d, not %d", ss, gs, ms, now, s != nil, err, want)
	}
}

// wrongs are numbers that are none of a stream's.
func wrongs() []int {
	return []int{-2, -3, 1 << 20, 1<<32 + 1, 1 << 62, -1 << 32, most, least}
}

// streams are n streams of one VLAN, each of its own address.
func streams(n int) []sieve.Stream {
	var ss []sieve.Stream
	for i := range n {
		ss = append(ss, bare(mac(byte(i))))
	}
	return ss
}

// P12.1: how many streams, gates and meters there may be; too many come ahead of all else.
func TestMany(t *testing.T) {
	list, conf := shutAfter(5), meter.Conf{Rate: 8, Burst: 80}
	for _, n := range []int{0, 1, 63, 64} {
		holdNew(t, streams(n), nil, nil, 0, api.OK)
		holdNew(t, nil, slices.Repeat([]gates.List{list}, n), nil, 0, api.OK)
		holdNew(t, nil, nil, slices.Repeat([]meter.Conf{conf}, n), 0, api.OK)
		holdNew(t, streams(n), slices.Repeat([]gates.List{list}, n), slices.Repeat([]meter.Conf{conf}, n), 0, api.OK)
	}
	for _, n := range []int{65, 66, 128, 1000} {
		for _, now := range []int{0, -1} {
			holdNew(t, streams(n), nil, nil, now, api.ErrMany)
			holdNew(t, nil, slices.Repeat([]gates.List{list}, n), nil, now, api.ErrMany)
			holdNew(t, nil, nil, slices.Repeat([]meter.Conf{conf}, n), now, api.ErrMany)
		}
		// Whatever is wrong with them, or with the others.
		holdNew(t, make([]sieve.Stream, n), nil, nil, 0, api.ErrMany)
		holdNew(t, make([]sieve.Stream, 1), make([]gates.List, n), nil, 0, api.ErrMany)
		holdNew(t, make([]sieve.Stream, 1), make([]gates.List, 1), slices.Repeat([]meter.Conf{{Rate: -1}}, n), -1, api.ErrMany)
	}
	if sieve.Most != 64 || sieve.Kinds != 6 {
		t.Error("the limits are", sieve.Most, sieve.Kinds)
	}
}

// P12.1: the numbers of a stream, each at its ends and beyond, of a sieve with three gates and two meters.
func TestStreams(t *testing.T) {
	gs := []gates.List{shutAfter(5), shutAfter(6), shutAfter(7)}
	ms := []meter.Conf{{Rate: 8, Burst: 80}, {}}
	for _, x := range []struct {
		name  string
		at    func(*sieve.Stream) *int
		right []int
		wrong []int
	}{
		{"Port", func(s *sieve.Stream) *int { return &s.Port }, []int{-1, 0, 1, 6, 7}, []int{8, 9}},
		{"Vid", func(s *sieve.Stream) *int { return &s.Vid }, []int{1, 2, 4093, 4094}, []int{0, -1, 4095, 4096}},
		{"Gate", func(s *sieve.Stream) *int { return &s.Gate }, []int{-1, 0, 1, 2}, []int{3, 4, 64}},
		{"Prio", func(s *sieve.Stream) *int { return &s.Prio }, []int{-1, 0, 1, 6, 7}, []int{8, 9}},
		{"Max", func(s *sieve.Stream) *int { return &s.Max }, []int{0, 1, 64, 1599, 1600}, []int{-1, 1601, 1602}},
		{"Rate", func(s *sieve.Stream) *int { return &s.Rate }, []int{-1, 0, 1}, []int{2, 3, 64}},
	} {
		for _, n := range []int{1, 2, 64} {
			for _, at := range []int{0, n / 2, n - 1} {
				for _, v := range x.right {
					ss := streams(n)
					*x.at(&ss[at]) = v
					holdNew(t, ss, gs, ms, 0, api.OK)
				}
				for _, v := range append(wrongs(), x.wrong...) {
					ss := streams(n)
					*x.at(&ss[at]) = v
					holdNew(t, ss, gs, ms, 0, api.ErrArg)
				}
			}
		}
	}
}

// P12.1: without gates, or without meters, a stream has none; with 64 it may have the last one.
func TestGatesAndMeters(t *testing.T) {
	for _, n := range []int{0, 1, 64} {
		gs := slices.Repeat([]gates.List{shutAfter(5)}, n)
		ms := slices.Repeat([]meter.Conf{{}}, n)
		for _, x := range []struct {
			at   int
			want api.Errno
		}{{-2, api.ErrArg}, {-1, api.OK}, {n - 1, api.OK}, {n, api.ErrArg}, {n + 1, api.ErrArg}} {
			s := bare(mac(1))
			s.Gate = x.at
			holdNew(t, []sieve.Stream{s}, gs, nil, 0, x.want)
			s = bare(mac(1))
			s.Rate = x.at
			holdNew(t, []sieve.Stream{s}, nil, ms, 0, x.want)
			// Gates aren't meters.
			if n > 0 && x.at >= 0 {
				s = bare(mac(1))
				s.Gate = x.at
				holdNew(t, []sieve.Stream{s}, nil, ms, 0, api.ErrArg)
				s = bare(mac(1))
				s.Rate = x.at
				holdNew(t, []sieve.Stream{s}, gs, nil, 0, api.ErrArg)
			}
		}
	}
}

// P12.1: of gates that aren't right the first one's Check is told, behind the streams and ahead of the meters.
func TestWrongGates(t *testing.T) {
	right := shutAfter(5)
	arg := gates.List{Cycle: 10, Slots: []gates.Slot{{Open: 256, Len: 1}}}
	slot := gates.List{Cycle: 10, Slots: []gates.Slot{{Open: 1, Len: 11}}}
	many := gates.List{Cycle: 1000, Slots: slices.Repeat([]gates.Slot{{Open: 1, Len: 1}}, 65)}
	for _, x := range []struct {
		gs   []gates.List
		want api.Errno
	}{
		{[]gates.List{arg}, api.ErrArg}, {[]gates.List{slot}, api.ErrSlot}, {[]gates.List{many}, api.ErrMany}, {[]gates.List{{}}, api.ErrArg},
		{[]gates.List{right, slot}, api.ErrSlot}, {[]gates.List{slot, right}, api.ErrSlot}, {[]gates.List{right, many, slot, arg}, api.ErrMany},
		{[]gates.List{slot, arg}, api.ErrSlot}, {[]gates.List{arg, slot}, api.ErrArg}, {[]gates.List{many, arg}, api.ErrMany}, {[]gates.List{slot, many}, api.ErrSlot}, {[]gates.List{right, arg, many}, api.ErrArg},
		{append(slices.Repeat([]gates.List{right}, 63), slot), api.ErrSlot},
	} {
		holdNew(t, nil, x.gs, nil, 0, x.want)
		holdNew(t, streams(3), x.gs, []meter.Conf{{}}, 0, x.want)
		// A meter that isn't right, and a time that isn't, come behind that.
		holdNew(t, nil, x.gs, []meter.Conf{{Rate: -1}}, 0, x.want)
		holdNew(t, nil, x.gs, []meter.Conf{{}}, -1, x.want)
		// A stream that isn't right comes ahead of it.
		wrong := streams(3)
		wrong[2].Vid = 0
		holdNew(t, wrong, x.gs, []meter.Conf{{Rate: -1}}, -1, api.ErrArg)
	}
	holdNew(t, nil, []gates.List{right, {Base: maxTime, Cycle: 1 << 30, Slots: []gates.Slot{{Open: 255, Len: 1 << 30}}}}, nil, 0, api.OK)
}

// P12.1: a meter that isn't right, and a time at which none may begin; without meters any time is as good.
func TestWrongMeters(t *testing.T) {
	for _, c := range []meter.Conf{{Rate: -1}, {Burst: mostBits + 1}, {More: -1}, {Beyond: most}} {
		for _, at := range []int{0, 1, 63} {
			ms := make([]meter.Conf, 64)
			ms[at] = c
			holdNew(t, nil, nil, ms, 0, api.ErrArg)
			holdNew(t, streams(2), []gates.List{shutAfter(5)}, ms[:at+1], 0, api.ErrArg)
		}
	}
	for _, now := range []int{0, 1, maxTime - 1, maxTime} {
		holdNew(t, streams(2), nil, []meter.Conf{{}}, now, api.OK)
	}
	for _, now := range []int{-1, maxTime + 1, 2 * maxTime, most, least} {
		holdNew(t, streams(2), nil, []meter.Conf{{}}, now, api.ErrArg)
		holdNew(t, nil, nil, make([]meter.Conf, 64), now, api.ErrArg)
		holdNew(t, streams(2), []gates.List{shutAfter(5)}, nil, now, api.OK)
		holdNew(t, nil, nil, nil, now, api.OK)
	}
}

// P12.1: in a new sieve nothing has happened, and no stream is blocked; its meters begin at now with full pails.
func TestNewIsFresh(t *testing.T) {
	for _, now := range []int{0, 5, maxTime} {
		ss := streams(3)
		ss[0].Rate, ss[1].Rate = 0, 1
		s, err := sieve.New(ss, nil, []meter.Conf{{Burst: 80}, {Beyond: 80}}, now)
		if err != api.OK {
			t.Fatal("New is", err)
		}
		for i := -1; i <= 4; i++ {
			holdCounts(t, s, i, [6]int{})
		}
		holdIn(t, s, frame{now: now - 1, dst: mac(0), size: 1}, answer{i: 0, what: sieve.Fast})
		holdIn(t, s, frame{now: now, dst: mac(0), size: 10}, answer{i: 0, what: sieve.Pass})
		holdIn(t, s, frame{now: now, dst: mac(0), size: 1}, answer{i: 0, what: sieve.Fast})
		holdIn(t, s, frame{now: now, dst: mac(1), size: 10}, answer{i: 1, yellow: true, what: sieve.Pass})
		holdIn(t, s, frame{now: now, dst: mac(1), size: 1}, answer{i: 1, what: sieve.Fast})
		holdIn(t, s, frame{now: now, dst: mac(2), size: 1}, answer{i: 2, what: sieve.Pass})
	}
	if sieve.Pass != 0 || sieve.Other != 1 || sieve.Long != 2 || sieve.Closed != 3 || sieve.Fast != 4 || sieve.Blocked != 5 {
		t.Error("the kinds are", sieve.Pass, sieve.Other, sieve.Long, sieve.Closed, sieve.Fast, sieve.Blocked)
	}
}

// P12.1: what a caller does with the lists that New was handed changes nothing; nor does New change them, or the room behind their ends.
func TestHandedIn(t *testing.T) {
	slots := append(make([]gates.Slot, 0, 4), gates.Slot{Open: 1, Len: 5}, gates.Slot{Open: 0, Len: 5})
	behind := slots[:4]
	behind[3] = gates.Slot{Open: 77, Len: 7}
	gs := append(make([]gates.List, 0, 3), gates.List{Cycle: 10, Slots: slots})
	ss := append(make([]sieve.Stream, 0, 3), bare(mac(1)))
	ss[0].Gate, ss[0].Rate = 0, 0
	ms := append(make([]meter.Conf, 0, 3), meter.Conf{Burst: 80})
	wasSs, wasMs, wasSlots := slices.Clone(ss[:3]), slices.Clone(ms[:3]), slices.Clone(behind)
	s := newSieve(t, ss, gs, ms)
	if !slices.Equal(ss[:3], wasSs) || !slices.Equal(ms[:3], wasMs) || !slices.Equal(behind, wasSlots) || gs[0].Cycle != 10 || len(gs[0].Slots) != 2 || gs[:2][1].Slots != nil {
		t.Error("New has changed what it was handed")
	}
	slots[0].Open, slots[1].Open = 0, 1
	gs[0] = gates.List{}
	ss[0] = sieve.Stream{}
	ms[0] = meter.Conf{}
	holdIn(t, s, frame{now: 0, dst: mac(1), size: 5}, answer{i: 0, what: sieve.Pass})
	holdIn(t, s, frame{now: 5, dst: mac(1), size: 5}, answer{i: 0, what: sieve.Closed})
	holdIn(t, s, frame{now: 10, dst: mac(1), size: 5}, answer{i: 0, what: sieve.Pass})
	holdIn(t, s, frame{now: 10, dst: mac(1), size: 5}, answer{i: 0, what: sieve.Fast})
}

// P12.1: two sieves of one setup never meet.
func TestTwo(t *testing.T) {
	ss := streams(1)
	ss[0].Max, ss[0].Shut, ss[0].Rate = 100, true, 0
	ms := []meter.Conf{{Burst: 80, Shut: true}}
	a, b := newSieve(t, ss, nil, ms), newSieve(t, ss, nil, ms)
	holdIn(t, a, frame{now: 9, dst: mac(0), size: 11}, answer{i: 0, what: sieve.Fast})
	holdIn(t, a, frame{now: 9, dst: mac(0), size: 101}, answer{i: 0, what: sieve.Long})
	holdIn(t, a, frame{now: 9, dst: mac(9), size: 101}, answer{i: -1, what: sieve.Other})
	holdCounts(t, b, 0, [6]int{})
	holdCounts(t, b, 1, [6]int{})
	holdIn(t, b, frame{now: 0, dst: mac(0), size: 10}, answer{i: 0, what: sieve.Pass})
	if err := b.Open(0); err != api.OK {
		t.Error("Open is", err)
	}
	holdIn(t, a, frame{now: 9, dst: mac(0), size: 1}, answer{i: 0, what: sieve.Blocked})
	holdCounts(t, a, 0, [6]int{sieve.Long: 1, sieve.Fast: 1, sieve.Blocked: 1})
	holdCounts(t, b, 0, [6]int{sieve.Pass: 1})
}

// P12.2, P12.3: the nil sieve.
func TestNil(t *testing.T) {
	var s *sieve.Sieve
	for _, x := range []int{0, 1, 5, -1, 64, maxTime, most, least} {
		holdFind(t, s, frame{vid: x, dst: mac(1)}, -1)
		for prio := -1; prio <= 8; prio++ {
			if i, p, yellow, what := s.In(x, x, 5, mac(1), mac(1), prio, x); i != -1 || p != 0 || yellow || what != sieve.Other {
				t.Errorf("In of none is %d, %d, %v, %d", i, p, yellow, what)
			}
		}
		if err := s.Open(x); err != api.ErrArg {
			t.Errorf("Open(%d) of none is %d", x, err)
		}
		holdCounts(t, s, x, [6]int{})
	}
}

// P12.2, P12.3: a sieve that New didn't make has no stream, and nor has one that New made of none.
func TestNoStream(t *testing.T) {
	for _, s := range []*sieve.Sieve{{}, newSieve(t, nil, nil, nil), newSieve(t, nil, []gates.List{shutAfter(5)}, []meter.Conf{{}})} {
		for i, x := range []int{0, 1, -1, maxTime, most, least} {
			holdFind(t, s, frame{vid: 5, dst: mac(1)}, -1)
			holdIn(t, s, frame{now: x, dst: mac(1), prio: x, size: x}, answer{i: -1, prio: x, what: sieve.Other})
			holdCounts(t, s, 0, [6]int{sieve.Other: i + 1})
			for _, no := range []int{1, -1, 64, most, least} {
				holdCounts(t, s, no, [6]int{})
				holdOpen(t, s, no, api.ErrNone)
			}
			holdOpen(t, s, 0, api.ErrNone)
		}
	}
}
