package seqr_test

import (
	"slices"
	"testing"

	"sandglass/seqr"
)

// ends are numbers behind which, or ahead of which, the numbers' end is, and some that are far from it.
func ends() []int {
	return []int{0, 1, 2, 31, 63, 64, 100, 32767, 32768, 32769, 40000, 65472, 65473, 65500, 65534, 65535}
}

// P13.2: the chapter's example.
func TestExample(t *testing.T) {
	s := vector(t, 4)
	for _, x := range [][2]int{{5, seqr.Taken}, {7, seqr.Taken}, {6, seqr.Late}, {7, seqr.Again}, {3, seqr.Rogue}, {12, seqr.Rogue}} {
		holdIn(t, s, 0, x[0], x[1])
	}
	// 2 and 3 fell out.
	holdTold(t, s, [4]int{seqr.Taken: 2, seqr.Again: 1, seqr.Rogue: 2, seqr.Late: 1}, 0, 2)
}

// P13.2: how far a number is ahead of the last one or behind it, for each length of the window, round the numbers' end, too.
func TestFar(t *testing.T) {
	for long := 1; long <= seqr.MostLen; long++ {
		for _, last := range ends() {
			for _, x := range []struct{ ahead, what int }{
				{0, seqr.Again}, {1, seqr.Taken}, {long - 1, seqr.Taken}, {long, seqr.Rogue}, {long + 1, seqr.Rogue}, {2 * long, seqr.Rogue}, {65, seqr.Rogue}, {1000, seqr.Rogue},
				{32766, seqr.Rogue}, {32767, seqr.Rogue}, {32768, seqr.Rogue}, {32769, seqr.Rogue},
				{-1, seqr.Late}, {1 - long, seqr.Late}, {-long, seqr.Rogue}, {-long - 1, seqr.Rogue}, {-2 * long, seqr.Rogue}, {-65, seqr.Rogue}, {-1000, seqr.Rogue},
				{-32767, seqr.Rogue}, {-32768, seqr.Rogue}, {-32769, seqr.Rogue},
			} {
				// In a window of one number there is none ahead or behind.
				if long == 1 && x.ahead != 0 {
					x.what = seqr.Rogue
				} else if x.ahead == 0 {
					x.what = seqr.Again
				}
				s := vector(t, long)
				holdIn(t, s, 0, last, seqr.Taken)
				holdIn(t, s, 0, round(last+x.ahead), x.what)
				counts := [4]int{seqr.Taken: 1}
				counts[x.what]++
				// The window goes on by as much, and none of what falls out had come: the first number stays in.
				lost := 0
				if x.what == seqr.Taken {
					lost = x.ahead
				}
				holdTold(t, s, counts, 0, lost)
			}
		}
	}
}

// P13.2: a Rogue, an Again and a Late number leave the last one as it is; a Rogue one hasn't come.
func TestLastStays(t *testing.T) {
	for _, last := range ends() {
		s := vector(t, 8)
		holdIn(t, s, 0, last, seqr.Taken)
		for _, ahead := range []int{8, -8, 20, -20, 32767, -32768} {
			holdIn(t, s, 0, round(last+ahead), seqr.Rogue)
			holdIn(t, s, 0, round(last+ahead), seqr.Rogue)
		}
		holdIn(t, s, 0, round(last-7), seqr.Late)
		holdIn(t, s, 0, round(last-7), seqr.Again)
		holdIn(t, s, 0, round(last-8), seqr.Rogue)
		holdIn(t, s, 0, round(last+8), seqr.Rogue)
		holdIn(t, s, 0, round(last+7), seqr.Taken)
		// 8 isn't known to have come, though it was Rogue once.
		holdIn(t, s, 0, round(last+8), seqr.Taken)
		holdIn(t, s, 0, round(last+8), seqr.Again)
		holdIn(t, s, 0, round(last), seqr.Rogue)
		holdIn(t, s, 0, round(last+7), seqr.Again)
		holdIn(t, s, 0, round(last+1), seqr.Late)
	}
}

// P13.2: a window of one number: all but the last one are Rogue.
func TestOneNumber(t *testing.T) {
	s := vector(t, 1)
	holdIn(t, s, 0, 65535, seqr.Taken)
	for seq := range seqr.Numbers - 1 {
		holdIn(t, s, 0, seq, seqr.Rogue)
	}
	holdIn(t, s, 0, 65535, seqr.Again)
	holdTold(t, s, [4]int{seqr.Taken: 1, seqr.Again: 1, seqr.Rogue: 65535}, 0, 0)
	s.Reset()
	holdIn(t, s, 0, 7, seqr.Taken)
	holdIn(t, s, 0, 8, seqr.Rogue)
}

// P13.2: each place of the window, of each length: a number that didn't come is Late, once; all the others are as they were.
func TestPlaces(t *testing.T) {
	for long := 2; long <= seqr.MostLen; long++ {
		for _, first := range []int{0, 1000, round(-long), round(-long / 2), round(-1)} {
			for miss := 1; miss < long-1; miss++ {
				s := vector(t, long)
				for i := range long {
					if i != miss {
						holdIn(t, s, 0, round(first+i), seqr.Taken)
					}
				}
				for i := range long {
					if i != miss {
						holdIn(t, s, 0, round(first+i), seqr.Again)
					}
				}
				holdIn(t, s, 0, round(first+miss), seqr.Late)
				for i := range long {
					holdIn(t, s, 0, round(first+i), seqr.Again)
				}
				// What lies ahead of the first one fell out, and hadn't come.
				holdTold(t, s, [4]int{seqr.Taken: long - 1, seqr.Again: 2*long - 1, seqr.Late: 1}, 0, long-1)
			}
		}
	}
}

// P13.2: behind the first number each place of the window is free, and may be taken in any order.
func TestFreePlaces(t *testing.T) {
	for long := 1; long <= seqr.MostLen; long++ {
		for _, last := range []int{0, 5, 40000, 65535} {
			for _, up := range []bool{false, true} {
				s := vector(t, long)
				holdIn(t, s, 0, last, seqr.Taken)
				for i := 1; i < long; i++ {
					at := last - i
					if up {
						at = last - long + i
					}
					holdIn(t, s, 0, round(at), seqr.Late)
				}
				for i := range long {
					holdIn(t, s, 0, round(last-i), seqr.Again)
				}
				holdIn(t, s, 0, round(last-long), seqr.Rogue)
				holdTold(t, s, [4]int{seqr.Taken: 1, seqr.Again: long, seqr.Rogue: 1, seqr.Late: long - 1}, 0, 0)
			}
		}
	}
}

// P13.2: the window goes on by each number of places: what has come stays come, at its new place; of what falls out all that hasn't come is lost.
func TestMove(t *testing.T) {
	for long := 2; long <= seqr.MostLen; long++ {
		for ahead := 1; ahead < long; ahead++ {
			for _, came := range [][]int{{}, {1}, {long - 1}, {long - ahead}, {long - ahead - 1}, {1, long / 2, long - 1}, {2, 3, 5, 8, 13, 21, 34, 55}} {
				last := 65530
				s := vector(t, long)
				holdIn(t, s, 0, last, seqr.Taken)
				has := map[int]bool{0: true}
				for _, i := range came {
					if i > 0 && i < long && !has[i] {
						has[i] = true
						holdIn(t, s, 0, round(last-i), seqr.Late)
					}
				}
				late := s.Counts()[seqr.Late]
				holdIn(t, s, 0, round(last+ahead), seqr.Taken)
				lost := 0
				for i := long - ahead; i < long; i++ {
					if !has[i] {
						lost++
					}
				}
				holdTold(t, s, [4]int{seqr.Taken: 2, seqr.Late: late}, 0, lost)
				for i := -ahead; i < long; i++ {
					want := seqr.Late
					if i >= long-ahead {
						want = seqr.Rogue
					} else if has[i] || i == -ahead {
						want = seqr.Again
					}
					holdIn(t, s, 0, round(last-i), want)
				}
			}
		}
	}
}

// P13.2, P13.3: how many are lost as numbers jump ahead, by less than Len and by just Len - 1; what was Late isn't lost.
func TestLost(t *testing.T) {
	s := vector(t, 4)
	lost := func(seq, what, lost int) {
		t.Helper()
		holdIn(t, s, 0, seq, what)
		if got := s.Lost(); got != lost {
			t.Errorf("behind %d Lost is %d, not %d", seq, got, lost)
		}
	}
	lost(10, seqr.Taken, 0)
	// 7, 8, 9 fall out one by one.
	lost(11, seqr.Taken, 1)
	lost(12, seqr.Taken, 2)
	lost(13, seqr.Taken, 3)
	// Now only what has come falls out.
	lost(14, seqr.Taken, 3)
	lost(15, seqr.Taken, 3)
	// By just Len - 1: 12, 13, 14 fall out, all of which have come; then 16 and 17, which haven't, beside 15.
	lost(18, seqr.Taken, 3)
	lost(21, seqr.Taken, 5)
	lost(25, seqr.Rogue, 5)
	lost(20, seqr.Late, 5)
	lost(20, seqr.Again, 5)
	// By 2: of 18, which has come, and 19.
	lost(23, seqr.Taken, 6)
	lost(22, seqr.Late, 6)
	lost(24, seqr.Taken, 6)
	lost(25, seqr.Taken, 6)
	lost(28, seqr.Taken, 6)
	lost(31, seqr.Taken, 8)
	holdTold(t, s, [4]int{seqr.Taken: 13, seqr.Again: 1, seqr.Rogue: 1, seqr.Late: 2}, 0, 8)
}

// P13.2: as long as the numbers come one by one none is lost but those ahead of the first one, all the way round; of two ways with one late each is taken once.
func TestAllTheWayRound(t *testing.T) {
	for _, long := range []int{2, 3, 32, 64} {
		s := vector(t, long)
		for i := range 2*seqr.Numbers + 100 {
			holdIn(t, s, i, round(i+65000), seqr.Taken)
			if i >= long {
				holdIn(t, s, i, round(i+65000-long), seqr.Rogue)
			}
			if i >= long-1 {
				holdIn(t, s, i, round(i+65000-long+1), seqr.Again)
			}
			if t.Failed() {
				t.Fatal("at", i, "of", long)
			}
		}
		if s.Lost() != long-1 || s.Resets() != 0 {
			t.Error("Lost is", s.Lost(), "Resets is", s.Resets())
		}
	}
}

// P13.4: a number is taken once more when the numbers have gone round: as soon as it is ahead of the last one, not while it is in the window.
func TestRound(t *testing.T) {
	for _, long := range []int{2, 8, 64} {
		s := vector(t, long)
		var taken []int
		for at := 0; at <= seqr.Numbers; at += long - 1 {
			holdIn(t, s, 0, round(at), seqr.Taken)
			taken = append(taken, round(at))
		}
		slices.Sort(taken)
		twice := len(taken) - len(slices.Compact(taken))
		if at := s.Counts()[seqr.Taken]; at != seqr.Numbers/(long-1)+1 {
			t.Error("of", long, "so many are taken:", at)
		}
		// With steps by which the numbers can be parted the last one is 0, as the first one was.
		if want := map[bool]int{true: 1}[seqr.Numbers%(long-1) == 0]; twice != want {
			t.Error("of", long, "so many are taken twice:", twice, "not", want)
		}
	}
}
