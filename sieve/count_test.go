package sieve_test

import (
	"testing"

	"sandglass/api"
	"sandglass/gates"
	"sandglass/meter"
	"sandglass/sieve"
)

// P12.3: which streams there are to open.
func TestOpenNone(t *testing.T) {
	for _, n := range []int{1, 2, 64} {
		s := newSieve(t, streams(n), nil, nil)
		for i := range n {
			holdOpen(t, s, i, api.OK)
		}
		for _, i := range []int{-1, -2, n, n + 1, 65, 1 << 32, -1 << 32, most, least} {
			holdOpen(t, s, i, api.ErrNone)
		}
	}
}

// P12.3: Open lets one stream in again, not another one, and opens its meter, not another one's.
func TestOpen(t *testing.T) {
	ss := streams(3)
	for i := range ss {
		ss[i].Max, ss[i].Shut = 10, true
	}
	ss[0].Rate, ss[1].Rate = 1, 0
	s := newSieve(t, ss, nil, []meter.Conf{{Burst: 8, Shut: true}, {Burst: 8, Shut: true}})
	hold := func(i, size, want int) {
		t.Helper()
		holdIn(t, s, frame{dst: mac(byte(i)), size: size}, answer{i: i, what: want})
	}
	for i := range 2 {
		hold(i, 2, sieve.Fast)
		hold(i, 11, sieve.Long)
	}
	hold(2, 11, sieve.Long)
	was := [3][6]int{s.Counts(0), s.Counts(1), s.Counts(2)}
	holdOpen(t, s, -1, api.ErrNone)
	holdOpen(t, s, 3, api.ErrNone)
	for i := range 3 {
		hold(i, 1, sieve.Blocked)
		was[i][sieve.Blocked]++
	}
	holdOpen(t, s, 1, api.OK)
	for i := range 3 {
		holdCounts(t, s, i, was[i])
	}
	hold(0, 1, sieve.Blocked)
	hold(2, 1, sieve.Blocked)
	hold(1, 1, sieve.Pass)
	hold(1, 1, sieve.Fast)
	holdOpen(t, s, 2, api.OK)
	hold(2, 1, sieve.Pass)
	hold(1, 0, sieve.Fast)
	hold(0, 0, sieve.Blocked)
	holdOpen(t, s, 0, api.OK)
	hold(0, 1, sieve.Pass)
	hold(1, 0, sieve.Fast)
	// Twice is as good, also of one that is open; what a meter has stays.
	for range 2 {
		holdOpen(t, s, 1, api.OK)
		holdOpen(t, s, 2, api.OK)
	}
	hold(1, 0, sieve.Pass)
	hold(1, 1, sieve.Fast)
	hold(2, 10, sieve.Pass)
	hold(2, 11, sieve.Long)
	hold(2, 10, sieve.Blocked)
}

// P12.3: an Open of a stream whose meter is another one's, too, opens it for both, but lets the other one in no more.
func TestOpenShared(t *testing.T) {
	ss := streams(2)
	for i := range ss {
		ss[i].Max, ss[i].Shut, ss[i].Rate = 10, true, 0
	}
	s := newSieve(t, ss, nil, []meter.Conf{{Burst: 8, Shut: true}})
	holdIn(t, s, frame{dst: mac(0), size: 2}, answer{i: 0, what: sieve.Fast})
	holdIn(t, s, frame{dst: mac(1), size: 11}, answer{i: 1, what: sieve.Long})
	holdOpen(t, s, 0, api.OK)
	holdIn(t, s, frame{dst: mac(1), size: 0}, answer{i: 1, what: sieve.Blocked})
	holdIn(t, s, frame{dst: mac(0), size: 1}, answer{i: 0, what: sieve.Pass})
	holdIn(t, s, frame{dst: mac(0), size: 1}, answer{i: 0, what: sieve.Fast})
	holdOpen(t, s, 1, api.OK)
	holdIn(t, s, frame{dst: mac(0), size: 0}, answer{i: 0, what: sieve.Pass})
	holdIn(t, s, frame{dst: mac(1), size: 0}, answer{i: 1, what: sieve.Pass})
}

// P12.3: what happened is counted, stream by stream, and to those of none behind the last one.
func TestCounts(t *testing.T) {
	ss := streams(3)
	ss[1].Max, ss[1].Gate, ss[1].Rate = 100, 0, 0
	s := newSieve(t, ss, []gates.List{shutAfter(5)}, []meter.Conf{{Burst: 80}})
	send := func(n int, f frame, want answer) {
		for range n {
			holdIn(t, s, f, want)
		}
	}
	send(2, frame{dst: mac(0), size: 1}, answer{i: 0, what: sieve.Pass})
	send(1, frame{dst: mac(1), size: 10}, answer{i: 1, what: sieve.Pass})
	send(3, frame{dst: mac(1), size: 101}, answer{i: 1, what: sieve.Long})
	send(4, frame{now: 5, dst: mac(1), size: 10}, answer{i: 1, what: sieve.Closed})
	send(5, frame{dst: mac(1), size: 10}, answer{i: 1, what: sieve.Fast})
	send(6, frame{dst: mac(7), size: 10}, answer{i: -1, what: sieve.Other})
	want := [][6]int{{sieve.Pass: 2}, {sieve.Pass: 1, sieve.Long: 3, sieve.Closed: 4, sieve.Fast: 5}, {}, {sieve.Other: 6}}
	for range 2 {
		for i, counts := range want {
			holdCounts(t, s, i, counts)
		}
		for _, i := range []int{-1, -2, 4, 5, 64, 65, 1 << 32, most, least} {
			holdCounts(t, s, i, [6]int{})
		}
		// Neither Find nor Open counts, nor does what a caller does with an answer.
		holdFind(t, s, frame{vid: 5, dst: mac(7)}, -1)
		holdFind(t, s, frame{vid: 5, dst: mac(2)}, 2)
		holdOpen(t, s, 1, api.OK)
		holdOpen(t, s, 3, api.ErrNone)
		counts := s.Counts(1)
		counts[sieve.Pass] = 99
	}
	full := newSieve(t, streams(64), nil, nil)
	holdIn(t, full, frame{dst: mac(63)}, answer{i: 63, what: sieve.Pass})
	holdIn(t, full, frame{dst: mac(64)}, answer{i: -1, what: sieve.Other})
	holdCounts(t, full, 63, [6]int{sieve.Pass: 1})
	holdCounts(t, full, 64, [6]int{sieve.Other: 1})
	holdCounts(t, full, 65, [6]int{})
}
