package merge_test

import (
	"testing"

	"sandglass/seqr"
)

// P14.3: the chapter's example.
func TestExample(t *testing.T) {
	c := ways(2)
	c.Limit = 1
	m := newMerge(t, c, 0)
	holdIn(t, m, 0, 0, 0, true)
	holdIn(t, m, 0, 0, 1, true)
	holdLook(t, m, 10, true)
	holdSilent(t, m, 1)
}

// P14.3: when a Look is due: one nanosecond ahead of it, at it and behind it; one that isn't is forgotten.
func TestDue(t *testing.T) {
	for _, every := range []int{1, 2, 10, maxTime / 4} {
		for _, begin := range []int{0, 1, 77, maxTime / 4} {
			for _, late := range []int{0, 1, 5} {
				c := ways(2)
				c.Every = every
				m := newMerge(t, c, begin)
				holdIn(t, m, begin, 0, 5, true)
				for _, now := range []int{begin, begin + every - 1, begin - 1, 0, -1, least, maxTime + 1, most} {
					if now != begin+every {
						holdLook(t, m, now, false)
					}
				}
				holdSilent(t, m, 0)
				holdLook(t, m, begin+every+late, true)
				holdSilent(t, m, 1)
				// The next one is due Every behind this one, not behind when this one was due.
				holdIn(t, m, begin, 0, 6, true)
				holdLook(t, m, begin+every+late, false)
				holdLook(t, m, begin+2*every+late-1, false)
				holdSilent(t, m, 1)
				holdLook(t, m, begin+2*every+late, true)
				holdSilent(t, m, 2)
			}
		}
	}
}

// P14.3: a Look that is due, and tells no, counts anew and puts off the next one, too.
func TestDueNo(t *testing.T) {
	c := ways(2)
	c.Limit = 2
	m := newMerge(t, c, 0)
	holdIn(t, m, 0, 0, 1, true)
	holdIn(t, m, 0, 0, 2, true)
	holdLook(t, m, 15, false)
	holdIn(t, m, 15, 0, 3, true)
	holdLook(t, m, 20, false)
	holdLook(t, m, 24, false)
	// 1 and 2 aren't counted any more: only 3 is.
	holdLook(t, m, 25, false)
	holdSilent(t, m, 0)
	for seq := 4; seq <= 6; seq++ {
		holdIn(t, m, 25, 0, seq, true)
	}
	holdLook(t, m, 34, false)
	holdLook(t, m, 35, true)
	// Two in a row: nothing came.
	holdLook(t, m, 35, false)
	holdLook(t, m, 45, false)
	holdSilent(t, m, 1)
}

// P14.3: at MaxTime a Look may be due; above it none is, nor does it count anew.
func TestMaxTime(t *testing.T) {
	for _, begin := range []int{0, maxTime - 10} {
		m := newMerge(t, ways(2), begin)
		holdIn(t, m, begin, 0, 5, true)
		holdLook(t, m, maxTime+1, false)
		holdLook(t, m, maxTime+10, false)
		holdLook(t, m, most, false)
		holdSilent(t, m, 0)
		holdLook(t, m, maxTime, true)
		holdIn(t, m, maxTime, 0, 6, true)
		for _, now := range []int{maxTime, maxTime + 9, maxTime + 10, 2 * maxTime, most} {
			holdLook(t, m, now, false)
		}
		holdSilent(t, m, 1)
	}
	for _, begin := range []int{1, maxTime - 9, maxTime} {
		c := ways(2)
		c.Every = maxTime
		if begin > 1 {
			c.Every = 10
		}
		m := newMerge(t, c, begin)
		holdIn(t, m, begin, 0, 5, true)
		for _, now := range []int{maxTime, begin + c.Every, begin + c.Every + 1, most} {
			holdLook(t, m, now, false)
		}
		holdSilent(t, m, 0)
	}
	c := ways(2)
	c.Every = maxTime
	m := newMerge(t, c, 0)
	holdIn(t, m, 0, 0, 5, true)
	holdLook(t, m, maxTime-1, false)
	holdLook(t, m, maxTime, true)
}

// P14.3: frames that come on some of the ways alone, for each number of ways and each limit round it: just at it is no, one above it is yes.
func TestLimit(t *testing.T) {
	for n := 1; n <= 8; n++ {
		for on := 1; on <= n; on++ {
			for _, frames := range []int{0, 1, 7} {
				// Each frame is taken once, and is there on - 1 times once more.
				short := frames*(n-1) - frames*(on-1)
				for _, limit := range []int{short - 2, short - 1, short, short + 1, 0, mostLimit} {
					if limit < 0 {
						continue
					}
					c := ways(n)
					c.Limit = limit
					m := newMerge(t, c, 0)
					for seq := range frames {
						for way := range on {
							// Now these ways are silent, now the others.
							holdIn(t, m, 0, n-1-way, seq, way == 0)
						}
					}
					holdLook(t, m, 10, short > limit)
					want := 0
					if short > limit {
						want = 1
					}
					holdSilent(t, m, want)
				}
			}
		}
	}
}

// P14.3: of one way alone none is silent, whatever comes.
func TestOneWay(t *testing.T) {
	m := newMerge(t, ways(1), 0)
	for i := range 100 {
		holdIn(t, m, i, 0, i, true)
		holdIn(t, m, i, 0, i, false)
		holdLook(t, m, 10*i, false)
	}
	holdSilent(t, m, 0)
}

// P14.3: what a way tells Again or Rogue counts for nothing, nor does what all tell Rogue; what all take Late counts as Taken.
func TestWhatCounts(t *testing.T) {
	c := ways(3)
	c.Limit = 3
	m := newMerge(t, c, 0)
	holdIn(t, m, 0, 0, 5, true)
	holdIn(t, m, 0, 0, 4, true)
	// Again on its own way, how often ever.
	for range 20 {
		holdIn(t, m, 0, 0, 5, false)
	}
	// Rogue on its own way, and to all.
	for i := range 20 {
		holdIn(t, m, 0, 0, 1000+i, false)
		holdIn(t, m, 0, 1, 5000+i, false)
	}
	holdCounts(t, m, 0, [4]int{seqr.Taken: 1, seqr.Again: 20, seqr.Rogue: 20, seqr.Late: 1})
	holdCounts(t, m, 3, [4]int{seqr.Taken: 1, seqr.Rogue: 20, seqr.Late: 1})
	// 2 times 2 are more than 3.
	holdLook(t, m, 10, true)
	holdIn(t, m, 10, 0, 6, true)
	holdIn(t, m, 10, 0, 7, true)
	holdIn(t, m, 10, 2, 5, false)
	// One that was taken ahead of the Look is Again behind it: it counts there.
	holdLook(t, m, 20, false)
	holdSilent(t, m, 1)
}

// P14.3: more may come again than is taken; that is counted anew, too.
func TestMoreAgain(t *testing.T) {
	m := newMerge(t, ways(2), 0)
	for seq := range 20 {
		holdIn(t, m, 0, 0, seq, true)
	}
	holdLook(t, m, 10, true)
	for seq := range 20 {
		holdIn(t, m, 10, 1, seq, false)
	}
	holdLook(t, m, 20, false)
	holdIn(t, m, 20, 0, 20, true)
	holdLook(t, m, 30, true)
	holdSilent(t, m, 2)
}

// P14.3: the frames since a Look are those that came behind it, whatever their times.
func TestTimesGoBack(t *testing.T) {
	m := newMerge(t, ways(2), 100)
	holdIn(t, m, 5, 0, 1, true)
	holdIn(t, m, -5, 0, 2, true)
	holdIn(t, m, least, 1, 2, false)
	holdLook(t, m, 110, true)
	holdIn(t, m, 90, 0, 3, true)
	holdLook(t, m, 120, true)
	holdLook(t, m, 130, false)
	holdIn(t, m, 131, 0, 4, true)
	holdIn(t, m, 99, 1, 4, false)
	holdLook(t, m, 140, false)
	holdSilent(t, m, 2)
}
