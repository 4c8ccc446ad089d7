package sieve_test

import (
	"testing"

	"sandglass/api"
	"sandglass/gates"
	"sandglass/meter"
	"sandglass/sieve"
)

// frame is what comes in; a vid of 0 stands for VLAN 5.
type frame struct {
	now, port, vid int
	dst, src       api.Mac
	prio, size     int
}

// answer is what In tells.
type answer struct {
	i, prio int
	yellow  bool
	what    int
}

// holdIn holds an In against its answer, and against Find.
func holdIn(t *testing.T, s *sieve.Sieve, f frame, want answer) {
	t.Helper()
	if f.vid == 0 {
		f.vid = 5
	}
	holdFind(t, s, f, want.i)
	i, prio, yellow, what := s.In(f.now, f.port, f.vid, f.dst, f.src, f.prio, f.size)
	if got := (answer{i, prio, yellow, what}); got != want {
		t.Errorf("In of %v is %v, not %v", f, got, want)
	}
}

// holdFind holds a Find against the stream.
func holdFind(t *testing.T, s *sieve.Sieve, f frame, want int) {
	t.Helper()
	if got := s.Find(f.port, f.vid, f.dst, f.src); got != want {
		t.Errorf("Find of %v is %d, not %d", f, got, want)
	}
}

// holdOpen holds an Open against its error.
func holdOpen(t *testing.T, s *sieve.Sieve, i int, want api.Errno) {
	t.Helper()
	if err := s.Open(i); err != want {
		t.Errorf("Open(%d) is %d, not %d", i, err, want)
	}
}

// holdCounts holds a Counts against how often each of the six has happened.
func holdCounts(t *testing.T, s *sieve.Sieve, i int, want [6]int) {
	t.Helper()
	if got := s.Counts(i); got != want {
		t.Errorf("Counts(%d) is %v, not %v", i, got, want)
	}
}

// P12.2: the chapter's example.
func TestExample(t *testing.T) {
	x := bare(mac(1))
	x.Max, x.Shut = 100, true
	s := newSieve(t, []sieve.Stream{x}, nil, nil)
	holdIn(t, s, frame{dst: mac(1), size: 100}, answer{i: 0, what: sieve.Pass})
	holdIn(t, s, frame{dst: mac(1), size: 101}, answer{i: 0, what: sieve.Long})
	holdIn(t, s, frame{dst: mac(1), size: 100}, answer{i: 0, what: sieve.Blocked})
	holdOpen(t, s, 0, api.OK)
	holdIn(t, s, frame{dst: mac(1), size: 100}, answer{i: 0, what: sieve.Pass})
}

// P12.2: a frame is of a stream by its VLAN, its port, and the address it goes to.
func TestFind(t *testing.T) {
	at3, any7 := bare(mac(1)), bare(mac(1))
	at3.Port, any7.Vid = 3, 7
	s := newSieve(t, []sieve.Stream{at3, any7, bare(mac(2))}, nil, nil)
	for _, x := range []struct {
		f    frame
		want int
	}{
		{frame{port: 3, vid: 5, dst: mac(1)}, 0}, {frame{port: 3, vid: 5, dst: mac(1), src: mac(2)}, 0},
		{frame{port: 2, vid: 5, dst: mac(1)}, -1}, {frame{port: 4, vid: 5, dst: mac(1)}, -1}, {frame{port: -1, vid: 5, dst: mac(1)}, -1}, {frame{port: 3 + 1<<32, vid: 5, dst: mac(1)}, -1},
		{frame{port: 3, vid: 4, dst: mac(1)}, -1}, {frame{port: 3, vid: 0, dst: mac(1)}, -1}, {frame{port: 3, vid: 5 + 4096, dst: mac(1)}, -1}, {frame{port: 3, vid: -5, dst: mac(1)}, -1}, {frame{port: 3, vid: 5 + 1<<32, dst: mac(1)}, -1},
		{frame{port: 3, vid: 5, dst: mac(3)}, -1}, {frame{port: 3, vid: 5, src: mac(1)}, -1}, {frame{port: 3, vid: 5, dst: mac(3), src: mac(1)}, -1},
		{frame{port: 3, vid: 7, dst: mac(1)}, 1}, {frame{port: 0, vid: 7, dst: mac(1)}, 1}, {frame{port: -1, vid: 7, dst: mac(1)}, 1}, {frame{port: 8, vid: 7, dst: mac(1)}, 1}, {frame{port: most, vid: 7, dst: mac(1)}, 1}, {frame{port: least, vid: 7, dst: mac(1)}, 1},
		{frame{port: 3, vid: 5, dst: mac(2)}, 2}, {frame{port: 7, vid: 5, dst: mac(2), src: mac(1)}, 2}, {frame{port: 7, vid: 7, dst: mac(2), src: mac(1)}, -1},
	} {
		holdFind(t, s, x.f, x.want)
	}
	// Each byte of an address counts.
	for i := range 6 {
		for bit := range 8 {
			m := mac(1)
			m[i] ^= 1 << bit
			if m != mac(2) {
				holdFind(t, s, frame{port: 3, vid: 5, dst: m}, -1)
			}
		}
	}
	// All ports and VLANs that there are.
	for port := -1; port <= 7; port++ {
		for _, vid := range []int{1, 2, 4093, 4094} {
			x := bare(mac(1))
			x.Port, x.Vid = port, vid
			s := newSieve(t, []sieve.Stream{x}, nil, nil)
			for at := -2; at <= 8; at++ {
				want := -1
				if at == port || port == -1 {
					want = 0
				}
				holdFind(t, s, frame{port: at, vid: vid, dst: mac(1)}, want)
				holdFind(t, s, frame{port: at, vid: vid + 1, dst: mac(1)}, -1)
				holdFind(t, s, frame{port: at, vid: vid - 1, dst: mac(1)}, -1)
			}
		}
	}
}

// P12.2: with Src it is the address that a frame came from, and not the one it goes to.
func TestFindSrc(t *testing.T) {
	from := bare(mac(1))
	from.Src = true
	s := newSieve(t, []sieve.Stream{from, bare(mac(2))}, nil, nil)
	for _, x := range []struct {
		dst, src api.Mac
		want     int
	}{
		{mac(3), mac(1), 0}, {mac(1), mac(1), 0}, {mac(1), mac(3), -1}, {mac(3), mac(2), -1}, {mac(2), mac(3), 1}, {mac(2), mac(2), 1}, {mac(1), mac(2), -1}, {api.Mac{}, api.Mac{}, -1},
		// Both fit: the first one.
		{mac(2), mac(1), 0},
	} {
		holdFind(t, s, frame{vid: 5, dst: x.dst, src: x.src}, x.want)
	}
	s = newSieve(t, []sieve.Stream{bare(mac(2)), from}, nil, nil)
	holdFind(t, s, frame{vid: 5, dst: mac(2), src: mac(1)}, 0)
	holdFind(t, s, frame{vid: 5, dst: mac(3), src: mac(1)}, 1)
	// The address of noughts is one like any other.
	s = newSieve(t, []sieve.Stream{bare(api.Mac{})}, nil, nil)
	holdFind(t, s, frame{vid: 5, src: mac(1)}, 0)
	holdFind(t, s, frame{vid: 5, dst: mac(1)}, -1)
}

// P12.2: of several streams that a frame fits it is of the first one, also if that is blocked, and its gate is closed.
func TestFirst(t *testing.T) {
	ss := []sieve.Stream{bare(mac(1)), bare(mac(1)), bare(mac(1)), bare(mac(1))}
	ss[0].Port, ss[0].Prio = 2, 3
	ss[1].Prio, ss[1].Max, ss[1].Shut = 4, 100, true
	ss[2].Prio = 5
	s := newSieve(t, ss, nil, nil)
	holdIn(t, s, frame{port: 2, dst: mac(1), size: 1600}, answer{i: 0, prio: 3, what: sieve.Pass})
	holdIn(t, s, frame{port: 3, dst: mac(1), size: 100}, answer{i: 1, prio: 4, what: sieve.Pass})
	holdIn(t, s, frame{port: 3, dst: mac(1), size: 101}, answer{i: 1, what: sieve.Long})
	holdIn(t, s, frame{port: 3, dst: mac(1), size: 1}, answer{i: 1, what: sieve.Blocked})
	holdIn(t, s, frame{port: 2, dst: mac(1), size: 1}, answer{i: 0, prio: 3, what: sieve.Pass})
	holdCounts(t, s, 2, [6]int{})
	// The last of 64.
	ss = streams(64)
	s = newSieve(t, ss, nil, nil)
	for i := range 64 {
		holdIn(t, s, frame{dst: mac(byte(i)), prio: i % 8, size: 64}, answer{i: i, prio: i % 8, what: sieve.Pass})
	}
	holdIn(t, s, frame{dst: mac(64), prio: 2, size: 64}, answer{i: -1, prio: 2, what: sieve.Other})
}

// P12.2: a frame of no stream goes on with its own priority, whatever that is.
func TestOther(t *testing.T) {
	s := newSieve(t, streams(2), nil, nil)
	for i, prio := range []int{0, 1, 7, -1, 8, most, least} {
		holdIn(t, s, frame{now: least, dst: mac(9), prio: prio, size: most}, answer{i: -1, prio: prio, what: sieve.Other})
		holdCounts(t, s, 2, [6]int{sieve.Other: i + 1})
	}
	holdCounts(t, s, 0, [6]int{})
	holdCounts(t, s, 1, [6]int{})
}

// P12.2: what passes has the stream's priority, or its own one; what doesn't has none.
func TestPrio(t *testing.T) {
	for prio := -1; prio <= 7; prio++ {
		x := bare(mac(1))
		x.Prio, x.Max = prio, 100
		s := newSieve(t, []sieve.Stream{x}, nil, nil)
		for _, own := range []int{0, 1, 5, 7, 8, -1, most, least} {
			want := prio
			if prio == -1 {
				want = own
			}
			holdIn(t, s, frame{dst: mac(1), prio: own, size: 100}, answer{i: 0, prio: want, what: sieve.Pass})
			holdIn(t, s, frame{dst: mac(1), prio: own, size: 101}, answer{i: 0, what: sieve.Long})
		}
	}
}

// P12.2: sizes at Max and one above it, with Shut and without; a Max of 0 is none.
func TestLong(t *testing.T) {
	for _, max := range []int{1, 2, 64, 1599, 1600} {
		for _, shut := range []bool{false, true} {
			x := bare(mac(1))
			x.Max, x.Shut = max, shut
			s := newSieve(t, []sieve.Stream{x}, nil, nil)
			for _, size := range []int{max, max - 1, 0, -1, least} {
				holdIn(t, s, frame{dst: mac(1), prio: 2, size: size}, answer{i: 0, prio: 2, what: sieve.Pass})
			}
			for i, size := range []int{max + 1, max + 2, 1601, most} {
				want := sieve.Long
				if shut && i > 0 {
					want = sieve.Blocked
				}
				holdIn(t, s, frame{dst: mac(1), prio: 2, size: size}, answer{i: 0, what: want})
			}
			if !shut {
				holdIn(t, s, frame{dst: mac(1), prio: 2, size: max}, answer{i: 0, prio: 2, what: sieve.Pass})
				continue
			}
			for range 2 {
				holdIn(t, s, frame{dst: mac(1), prio: 2, size: max}, answer{i: 0, what: sieve.Blocked})
			}
		}
	}
	for _, shut := range []bool{false, true} {
		x := bare(mac(1))
		x.Shut = shut
		s := newSieve(t, []sieve.Stream{x}, nil, nil)
		for _, size := range []int{0, 1, 1600, 1601, most, -1, least, 64} {
			holdIn(t, s, frame{dst: mac(1), size: size}, answer{i: 0, what: sieve.Pass})
		}
	}
	// Another stream isn't blocked by it.
	ss := streams(2)
	ss[0].Max, ss[0].Shut, ss[1].Max, ss[1].Shut = 10, true, 10, true
	s := newSieve(t, ss, nil, nil)
	holdIn(t, s, frame{dst: mac(0), size: 11}, answer{i: 0, what: sieve.Long})
	holdIn(t, s, frame{dst: mac(1), size: 10}, answer{i: 1, what: sieve.Pass})
	holdIn(t, s, frame{dst: mac(0), size: 10}, answer{i: 0, what: sieve.Blocked})
}

// P12.2: gate 0 of the stream's list counts alone, at each nanosecond; a time at which it tells nothing is Closed.
func TestClosed(t *testing.T) {
	list := gates.List{Base: 3, Cycle: 10, Slots: []gates.Slot{{Open: 255, Len: 2}, {Open: 254, Len: 3}, {Open: 1, Len: 1}, {Open: 0, Len: 1}}}
	ss := streams(4)
	ss[1].Gate, ss[2].Gate, ss[3].Gate = 0, 1, 2
	always := gates.List{Cycle: 1, Slots: []gates.Slot{{Open: 1, Len: 1}}}
	s := newSieve(t, ss, []gates.List{list, shutAfter(4), always}, nil)
	hold := func(now, i int, open bool) {
		t.Helper()
		want := answer{i: i, prio: 6, what: sieve.Pass}
		if !open {
			want = answer{i: i, what: sieve.Closed}
		}
		holdIn(t, s, frame{now: now, dst: mac(byte(i)), prio: 6, size: 64}, want)
	}
	for _, round := range []int{-maxTime, 0, 10, 1000, 2*maxTime - 20} {
		for gone := range 10 {
			now := round - (round%10+10)%10 + 10 + gone
			hold(now, 0, true)
			hold(now, 1, gone == 3 || gone == 4 || gone == 8)
			hold(now, 2, gone < 4)
			hold(now, 3, true)
		}
	}
	hold(-maxTime, 3, true)
	hold(2*maxTime, 3, true)
	for _, now := range []int{-maxTime - 1, 2*maxTime + 1, most, least} {
		hold(now, 0, true)
		hold(now, 1, false)
		hold(now, 2, false)
		hold(now, 3, false)
	}
}

// P12.2: a meter that tells Red is Fast, one that tells Yellow is told; frames come in to it that aren't yellow.
func TestFast(t *testing.T) {
	x := bare(mac(1))
	x.Rate, x.Prio = 1, 4
	s := newSieve(t, []sieve.Stream{x}, nil, []meter.Conf{{}, {Rate: 8, Burst: 80, More: 8, Beyond: 16, Aware: true}})
	for _, f := range []struct {
		now, size int
		want      answer
	}{
		{0, 10, answer{prio: 4, what: sieve.Pass}},
		{0, 3, answer{what: sieve.Fast}},
		{0, 1, answer{prio: 4, yellow: true, what: sieve.Pass}},
		{0, 1, answer{prio: 4, yellow: true, what: sieve.Pass}},
		{0, 1, answer{what: sieve.Fast}},
		{0, 0, answer{prio: 4, what: sieve.Pass}},
		{second - 1, 1, answer{what: sieve.Fast}},
		{second, 1, answer{prio: 4, what: sieve.Pass}},
		{second, 1, answer{prio: 4, yellow: true, what: sieve.Pass}},
		{second, 1, answer{what: sieve.Fast}},
		// What the meter refuses is Red, too, and counts for nothing there.
		{second - 1, 0, answer{what: sieve.Fast}},
		{-1, 0, answer{what: sieve.Fast}},
		{least, 0, answer{what: sieve.Fast}},
		{maxTime + 1, 0, answer{what: sieve.Fast}},
		{most, 0, answer{what: sieve.Fast}},
		{9 * second, -1, answer{what: sieve.Fast}},
		{9 * second, 1601, answer{what: sieve.Fast}},
		{9 * second, least, answer{what: sieve.Fast}},
		{9 * second, most, answer{what: sieve.Fast}},
		{2 * second, 1, answer{prio: 4, what: sieve.Pass}},
		{2 * second, 1, answer{prio: 4, yellow: true, what: sieve.Pass}},
		{maxTime, 10, answer{prio: 4, what: sieve.Pass}},
		{maxTime, 11, answer{what: sieve.Fast}},
	} {
		holdIn(t, s, frame{now: f.now, dst: mac(1), prio: 7, size: f.size}, f.want)
	}
}

// P12.2: streams of one meter share its bits, and its being shut; those of another one don't.
func TestSharedMeter(t *testing.T) {
	ss := streams(4)
	ss[0].Rate, ss[1].Rate, ss[2].Rate = 0, 0, 1
	s := newSieve(t, ss, nil, []meter.Conf{{Burst: 80, Shut: true}, {Burst: 80, Shut: true}})
	holdIn(t, s, frame{dst: mac(0), size: 6}, answer{i: 0, what: sieve.Pass})
	holdIn(t, s, frame{dst: mac(1), size: 5}, answer{i: 1, what: sieve.Fast})
	for i := range 4 {
		want := answer{i: i, what: sieve.Pass}
		if i < 2 {
			want.what = sieve.Fast
		}
		holdIn(t, s, frame{dst: mac(byte(i)), size: 4}, want)
	}
	// Opened by either, for both; what it had stays.
	holdOpen(t, s, 1, api.OK)
	holdIn(t, s, frame{dst: mac(0), size: 3}, answer{i: 0, what: sieve.Pass})
	holdIn(t, s, frame{dst: mac(1), size: 1}, answer{i: 1, what: sieve.Pass})
	holdIn(t, s, frame{dst: mac(1), size: 1}, answer{i: 1, what: sieve.Fast})
	holdIn(t, s, frame{dst: mac(0), size: 0}, answer{i: 0, what: sieve.Fast})
	holdOpen(t, s, 0, api.OK)
	holdIn(t, s, frame{dst: mac(1), size: 0}, answer{i: 1, what: sieve.Pass})
	// A time that one stream's frame had counts for the other's.
	holdIn(t, s, frame{now: 5, dst: mac(0), size: 0}, answer{i: 0, what: sieve.Pass})
	holdIn(t, s, frame{now: 4, dst: mac(1), size: 0}, answer{i: 1, what: sieve.Fast})
	holdIn(t, s, frame{now: 5, dst: mac(1), size: 0}, answer{i: 1, what: sieve.Pass})
	holdIn(t, s, frame{now: 0, dst: mac(2), size: 0}, answer{i: 2, what: sieve.Pass})
}

// P12.2: of several the first one happens: Blocked, Long, Closed, Fast; what comes behind that doesn't.
func TestOrder(t *testing.T) {
	x := bare(mac(1))
	x.Gate, x.Rate, x.Max, x.Shut = 0, 0, 100, true
	conf := meter.Conf{Burst: 320, Shut: true}
	s := newSieve(t, []sieve.Stream{x, bare(mac(2))}, []gates.List{shutAfter(5)}, []meter.Conf{conf})
	hold := func(now, size, want int) {
		t.Helper()
		holdIn(t, s, frame{now: now, dst: mac(1), size: size}, answer{i: 0, what: want})
	}
	// Long ahead of Closed and Fast: neither does the meter see it, nor is it shut.
	hold(7, 101, sieve.Long)
	for _, now := range []int{0, 7} {
		hold(now, 101, sieve.Blocked)
		hold(now, 1, sieve.Blocked)
	}
	holdOpen(t, s, 0, api.OK)
	// Closed ahead of Fast: the meter neither takes bits, nor is it shut, nor does its time go on.
	hold(9, 100, sieve.Closed)
	hold(9, 1, sieve.Closed)
	hold(0, 30, sieve.Pass)
	hold(0, 10, sieve.Pass)
	hold(9, 100, sieve.Closed)
	hold(1, 0, sieve.Pass)
	hold(1, 1, sieve.Fast)
	// A meter that is shut: Closed and Long still come ahead.
	hold(9, 0, sieve.Closed)
	hold(2, 0, sieve.Fast)
	// Fast doesn't block the stream, but Long does, behind which the meter stays as it was.
	hold(2, 101, sieve.Long)
	hold(2, 0, sieve.Blocked)
	holdCounts(t, s, 0, [6]int{sieve.Pass: 3, sieve.Long: 2, sieve.Closed: 4, sieve.Fast: 2, sieve.Blocked: 5})
	holdCounts(t, s, 1, [6]int{})
	holdCounts(t, s, 2, [6]int{})
}
