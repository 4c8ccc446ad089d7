package seqr_test

import (
	"testing"

	"sandglass/seqr"
)

// P13.2: a Reset by silence, one nanosecond ahead of its time, at it and behind it, by each kind that a number is otherwise.
func TestSilence(t *testing.T) {
	for _, reset := range []int{1, 2, 100, maxTime} {
		for _, begin := range []int{0, 7, -5, maxTime, most - 2*maxTime, least} {
			for _, x := range []struct{ seq, what, lost int }{{50, seqr.Again, 0}, {49, seqr.Late, 0}, {51, seqr.Taken, 1}, {42, seqr.Rogue, 0}, {58, seqr.Rogue, 0}, {32818, seqr.Rogue, 0}} {
				for _, late := range []int{-1, 0, 1} {
					// New's time is no matter: there all is new.
					s := newSeqr(t, seqr.Conf{Len: 8, Reset: reset}, 0)
					holdIn(t, s, begin, 50, seqr.Taken)
					counts := [4]int{seqr.Taken: 1}
					if late < 0 {
						holdIn(t, s, begin+reset-1, x.seq, x.what)
						counts[x.what]++
						holdTold(t, s, counts, 0, x.lost)
						continue
					}
					holdIn(t, s, begin+reset+late, x.seq, seqr.Taken)
					counts[seqr.Taken]++
					holdTold(t, s, counts, 1, 0)
					// It alone has come.
					holdIn(t, s, begin+reset+late, x.seq, seqr.Again)
					holdIn(t, s, begin+reset+late, round(x.seq-7), seqr.Late)
					holdIn(t, s, begin+reset+late, round(x.seq-8), seqr.Rogue)
					holdIn(t, s, begin+reset+late, round(x.seq+8), seqr.Rogue)
					holdIn(t, s, begin+reset+late, round(x.seq+1), seqr.Taken)
				}
			}
		}
	}
}

// P13.2: the same by Match.
func TestSilenceOfMatch(t *testing.T) {
	for _, reset := range []int{1, 100, maxTime} {
		for _, begin := range []int{0, 7, -5, maxTime, least} {
			for _, late := range []int{-1, 0, 1} {
				for _, seq := range []int{50, 51, 0} {
					s := newSeqr(t, seqr.Conf{Way: seqr.Match, Len: 8, Reset: reset}, 0)
					holdIn(t, s, begin, 50, seqr.Taken)
					if late < 0 && seq == 50 {
						holdIn(t, s, begin+reset+late, seq, seqr.Again)
						holdTold(t, s, [4]int{seqr.Taken: 1, seqr.Again: 1}, 0, 0)
						continue
					}
					holdIn(t, s, begin+reset+late, seq, seqr.Taken)
					holdIn(t, s, begin+reset+late, seq, seqr.Again)
					resets := 0
					if late >= 0 {
						resets = 1
					}
					holdTold(t, s, [4]int{seqr.Taken: 2, seqr.Again: 1}, resets, 0)
				}
			}
		}
	}
}

// P13.2: the silence ends with a frame that is Taken or Late, not with one that is Again or Rogue.
func TestWhatEndsSilence(t *testing.T) {
	for _, x := range []struct {
		seq  int
		ends bool
	}{{51, true}, {49, true}, {50, false}, {42, false}, {58, false}} {
		s := newSeqr(t, seqr.Conf{Len: 8, Reset: 100}, 0)
		holdIn(t, s, 0, 50, seqr.Taken)
		if what, _ := s.In(99, x.seq); (what == seqr.Taken || what == seqr.Late) != x.ends {
			t.Errorf("%d is %d", x.seq, what)
		}
		if x.ends {
			holdIn(t, s, 198, 50, seqr.Again)
			holdIn(t, s, 199, 50, seqr.Taken)
		} else {
			holdIn(t, s, 100, 50, seqr.Taken)
		}
		if s.Resets() != 1 {
			t.Errorf("behind %d Resets is %d", x.seq, s.Resets())
		}
	}
	m := newSeqr(t, seqr.Conf{Way: seqr.Match, Len: 1, Reset: 100}, 0)
	holdIn(t, m, 0, 50, seqr.Taken)
	holdIn(t, m, 60, 50, seqr.Again)
	holdIn(t, m, 99, 50, seqr.Again)
	holdIn(t, m, 100, 50, seqr.Taken)
	holdIn(t, m, 199, 51, seqr.Taken)
	holdIn(t, m, 298, 51, seqr.Again)
	holdIn(t, m, 299, 51, seqr.Taken)
	holdTold(t, m, [4]int{seqr.Taken: 4, seqr.Again: 3}, 2, 0)
}

// P13.2: times that go back: there is no silence; the time at which a frame was taken last is the last one's, though it is ahead of others.
func TestTimesGoBack(t *testing.T) {
	s := newSeqr(t, seqr.Conf{Len: 8, Reset: 100}, 1000)
	holdIn(t, s, 1000, 50, seqr.Taken)
	for _, now := range []int{999, 901, 900, 899, 0, -1, -maxTime, least} {
		holdIn(t, s, now, 50, seqr.Again)
	}
	holdIn(t, s, 500, 51, seqr.Taken)
	holdIn(t, s, 599, 51, seqr.Again)
	holdIn(t, s, 400, 49, seqr.Late)
	holdIn(t, s, 499, 51, seqr.Again)
	holdTold(t, s, [4]int{seqr.Taken: 2, seqr.Again: 10, seqr.Late: 1}, 0, 1)
	holdIn(t, s, 500, 51, seqr.Taken)
	holdTold(t, s, [4]int{seqr.Taken: 3, seqr.Again: 10, seqr.Late: 1}, 1, 1)
}

// P13.2: times that are as far from each other as can be.
func TestFarTimes(t *testing.T) {
	for _, way := range []int{seqr.Vector, seqr.Match} {
		for _, reset := range []int{1, 100, maxTime} {
			s := newSeqr(t, seqr.Conf{Way: way, Len: 8, Reset: reset}, most)
			holdIn(t, s, least, 5, seqr.Taken)
			holdIn(t, s, most, 5, seqr.Taken)
			holdIn(t, s, most, 5, seqr.Again)
			holdIn(t, s, least, 5, seqr.Again)
			holdIn(t, s, 0, 5, seqr.Again)
			holdIn(t, s, least, 6, seqr.Taken)
			holdIn(t, s, 0, 6, seqr.Taken)
			holdIn(t, s, -1, 6, seqr.Again)
			holdIn(t, s, most-1, 6, seqr.Taken)
			if s.Resets() != 3 {
				t.Error("Resets is", s.Resets())
			}
		}
	}
}

// P13.3: Reset lets all be new, how often it is done; what was told stays, and what hadn't come isn't lost by it.
func TestReset(t *testing.T) {
	for _, way := range []int{seqr.Vector, seqr.Match} {
		s := newSeqr(t, seqr.Conf{Way: way, Len: 8, Reset: 100}, 0)
		s.Reset()
		holdTold(t, s, [4]int{}, 1, 0)
		s.Reset()
		s.Reset()
		holdTold(t, s, [4]int{}, 3, 0)
		holdIn(t, s, 5, 50, seqr.Taken)
		holdIn(t, s, 5, 50, seqr.Again)
		s.Reset()
		holdTold(t, s, [4]int{seqr.Taken: 1, seqr.Again: 1}, 4, 0)
		holdIn(t, s, 5, 50, seqr.Taken)
		holdIn(t, s, 5, 52, seqr.Taken)
		lost := s.Lost()
		s.Reset()
		s.Reset()
		holdTold(t, s, [4]int{seqr.Taken: 3, seqr.Again: 1}, 6, lost)
		// All is new: silence is no Reset.
		holdIn(t, s, 1000, 30000, seqr.Taken)
		holdTold(t, s, [4]int{seqr.Taken: 4, seqr.Again: 1}, 6, lost)
		holdIn(t, s, 1099, 30000, seqr.Again)
		holdIn(t, s, 1100, 30000, seqr.Taken)
		holdTold(t, s, [4]int{seqr.Taken: 5, seqr.Again: 2}, 7, lost)
	}
}

// P13.2, P13.3: behind a Reset nothing has come in any place of the window, whatever had come ahead of it.
func TestWindowBehindReset(t *testing.T) {
	for _, silent := range []bool{false, true} {
		for _, long := range []int{2, 8, 63, 64} {
			s := newSeqr(t, seqr.Conf{Len: long, Reset: 100}, 0)
			for i := range 2 * long {
				holdIn(t, s, 0, i, seqr.Taken)
			}
			if s.Lost() != long-1 {
				t.Error("Lost is", s.Lost())
			}
			now := 100
			if !silent {
				s.Reset()
				now = 0
			}
			holdIn(t, s, now, 2*long-1, seqr.Taken)
			for i := 1; i < long; i++ {
				holdIn(t, s, now, 2*long-1-i, seqr.Late)
			}
			holdIn(t, s, now, long-1, seqr.Rogue)
			holdTold(t, s, [4]int{seqr.Taken: 2*long + 1, seqr.Rogue: 1, seqr.Late: long - 1}, 1, long-1)
			// What falls out now has come, all of it.
			holdIn(t, s, now, 3*long-2, seqr.Taken)
			holdTold(t, s, [4]int{seqr.Taken: 2*long + 2, seqr.Rogue: 1, seqr.Late: long - 1}, 1, long-1)
		}
	}
}

// P13.2: two Resets by silence in a row.
func TestSilenceTwice(t *testing.T) {
	s := newSeqr(t, seqr.Conf{Len: 4, Reset: 10}, 0)
	holdIn(t, s, 0, 7, seqr.Taken)
	holdIn(t, s, 10, 7, seqr.Taken)
	holdIn(t, s, 20, 7, seqr.Taken)
	holdIn(t, s, 29, 7, seqr.Again)
	holdTold(t, s, [4]int{seqr.Taken: 3, seqr.Again: 1}, 2, 0)
	s.Reset()
	holdIn(t, s, 29, 7, seqr.Taken)
	holdIn(t, s, 30, 7, seqr.Again)
	holdIn(t, s, 38, 7, seqr.Again)
	holdIn(t, s, 39, 7, seqr.Taken)
	holdTold(t, s, [4]int{seqr.Taken: 5, seqr.Again: 3}, 4, 0)
}

// P13.2: Match knows the last number alone, that was taken: none is Late, Rogue or lost, however far.
func TestMatch(t *testing.T) {
	for _, long := range []int{1, 8, 64} {
		m := newSeqr(t, seqr.Conf{Way: seqr.Match, Len: long, Reset: 100}, 0)
		for _, x := range [][2]int{{5, seqr.Taken}, {5, seqr.Again}, {900, seqr.Taken}, {5, seqr.Taken}, {4, seqr.Taken}, {5, seqr.Taken}, {5, seqr.Again}, {5, seqr.Again}, {32773, seqr.Taken}, {0, seqr.Taken}, {65535, seqr.Taken}, {65535, seqr.Again}, {0, seqr.Taken}, {0, seqr.Again}} {
			holdIn(t, m, 0, x[0], x[1])
		}
		holdTold(t, m, [4]int{seqr.Taken: 9, seqr.Again: 5}, 0, 0)
	}
}
