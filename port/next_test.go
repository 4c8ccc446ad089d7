package port_test

import (
	"testing"

	"sandglass/api"
	"sandglass/gates"
	"sandglass/lanes"
)

// window is a list by which a class's gate is open from a time on for so long, and no other gate is; its cycle is 100000.
func window(class, from, open int) gates.List {
	if from == 0 {
		return list(0, 100000, 1<<class, open, 0, 100000-open)
	}
	return list(0, 100000, 0, from, 1<<class, open, 0, 100000-from-open)
}

// P16.2: the chapter's example.
func TestExample(t *testing.T) {
	for _, x := range []struct {
		now  int
		goes bool
	}{{600, false}, {400, true}, {488, true}, {489, false}, {0, true}, {999, false}, {1000, false}, {9999, false}, {10000, true}} {
		p := newPort(t, list(0, 10000, 128, 1000, 127, 9000), all(1))
		holdPut(t, p, 7, frame(1, 64), api.OK)
		if x.goes {
			holdWhen(t, p, x.now, x.now)
			holdNext(t, p, x.now, 7, frame(1, 64))
			continue
		}
		holdWhen(t, p, x.now, 10000)
		holdNoNext(t, p, x.now)
		holdNext(t, p, 10000, 7, frame(1, 64))
	}
}

// P16.2: a frame that needs just what its gate is still open, one nanosecond more, and one less; of each class and many sizes.
func TestJustEnough(t *testing.T) {
	for class := range classes {
		for _, size := range []int{1, 2, 64, 125, maxFrame - 1, maxFrame} {
			for _, from := range []int{0, 1000} {
				end := from + 20000
				out := end - 8*size
				for _, it := range []lanes.Item{frame(1, size), early(2, size)} {
					p := newPort(t, window(class, from, 20000), all(2))
					for _, round := range []int{0, 100000, 1 << 20 * 100000} {
						holdPut(t, p, class, it, api.OK)
						for _, now := range []int{out + 1, out + 2, end - 1, end, end + 1, from + 99999} {
							holdNoNext(t, p, round+now)
						}
						for _, now := range []int{out, out - 1, out - 8, from} {
							holdNext(t, p, round+now, class, it)
							holdNoNext(t, p, round+now)
							holdPut(t, p, class, it, api.OK)
						}
						holdClear(t, p, 1)
					}
				}
			}
		}
	}
}

// P16.2: a window that is one nanosecond shorter than a frame needs never has it, just as long has it once, one longer twice.
func TestShortWindow(t *testing.T) {
	for _, size := range []int{1, 64, maxFrame} {
		for _, more := range []int{-1, 0, 1} {
			p := newPort(t, window(4, 30, 8*size+more), all(1))
			for now := 20; now < 30+8*size+10; now++ {
				holdPut(t, p, 4, frame(1, size), api.OK)
				if now >= 30 && now <= 30+more {
					holdNext(t, p, now, 4, frame(1, size))
				} else {
					holdNoNext(t, p, now)
					holdClear(t, p, 1)
				}
			}
		}
	}
}

// P16.2: a frame of no bytes needs no time: it goes out whatever its gate does.
func TestNoBytes(t *testing.T) {
	p := newPort(t, window(5, 30, 10), all(2))
	holdChange(t, p, list(2000, 10, 255, 5, 0, 5), 0, api.OK)
	for class := range classes {
		for _, now := range []int{0, 29, 30, 39, 40, 1999} {
			holdPut(t, p, class, frame(1, 0), api.OK)
			holdWhen(t, p, now, now)
			holdNext(t, p, now, class, frame(1, 0))
		}
	}
	// It doesn't pass one of its class that waits longer, nor a higher class that may go out, but one that may not.
	holdPut(t, p, 5, frame(1, 1), api.OK)
	holdPut(t, p, 5, frame(2, 0), api.OK)
	holdPut(t, p, 2, frame(3, 0), api.OK)
	holdNext(t, p, 29, 2, frame(3, 0))
	holdPut(t, p, 2, frame(3, 0), api.OK)
	holdNext(t, p, 30, 5, frame(1, 1))
	holdNext(t, p, 33, 5, frame(2, 0))
	holdNext(t, p, 39, 2, frame(3, 0))
	holdNoNext(t, p, 39)
}

// P16.2: a gate that is always open has all frames go out at all times, one that never is none.
func TestAlwaysAndNever(t *testing.T) {
	for _, l := range []gates.List{ever(60), list(5, 10, 61, 3, 62, 4, 60, 2), list(maxTime, mostCycle, 60, mostCycle)} {
		p := newPort(t, l, all(1))
		for _, now := range []int{0, 1, 7, 8, 14, 1000, mostCycle, maxTime - 1, maxTime} {
			for class := range classes {
				holdPut(t, p, class, frame(1, maxFrame), api.OK)
				if class >= 2 && class <= 5 {
					holdWhen(t, p, now, now)
					holdNext(t, p, now, class, frame(1, maxFrame))
				} else {
					holdNoNext(t, p, now)
					holdClear(t, p, 1)
				}
			}
		}
	}
}

// P16.2: a gate that stays open from slot to slot, and over the cycle's end, is open for all that.
func TestOverTheEnd(t *testing.T) {
	// Gate 3 is open from 700 to 1200 of each 1000, by four slots; gate 6 from 900 to 1000 alone.
	l := list(0, 1000, 8, 100, 9, 100, 0, 500, 8, 200, 72, 1)
	for _, base := range []int{0, 5000} {
		l.Base = base
		p := newPort(t, l, all(1))
		for _, x := range []struct{ at, left3, left6 int }{
			{0, 200, 0}, {100, 100, 0}, {199, 1, 0}, {200, 0, 0}, {699, 0, 0}, {700, 500, 0}, {899, 301, 0}, {900, 300, 100}, {999, 201, 1}, {1000, 200, 0}, {3960, 240, 40},
		} {
			for class := range classes {
				left := map[int]int{3: x.left3, 6: x.left6}[class]
				if class == 0 && x.at%1000 == 100 {
					left = 100
				}
				if left >= 8 {
					holdPut(t, p, class, frame(1, left/8), api.OK)
					holdNext(t, p, x.at, class, frame(1, left/8))
				}
				holdPut(t, p, class, frame(1, left/8+1), api.OK)
				holdNoNext(t, p, x.at)
				holdClear(t, p, 1)
			}
		}
	}
	// A gate that is closed for one nanosecond of a cycle as long as it may be.
	p := newPort(t, list(0, mostCycle, 0, 1, 2, 1), all(1))
	for _, x := range []struct {
		now  int
		goes bool
	}{{0, false}, {1, true}, {mostCycle - 8*maxFrame, true}, {mostCycle - 8*maxFrame + 1, false}, {mostCycle, false}, {mostCycle + 1, true}} {
		holdPut(t, p, 1, frame(1, maxFrame), api.OK)
		if x.goes {
			holdNext(t, p, x.now, 1, frame(1, maxFrame))
		} else {
			holdNoNext(t, p, x.now)
			holdClear(t, p, 1)
		}
	}
}

// P16.2: the times at which a frame may be asked for; beyond them there is none, and it waits on.
func TestNextTimes(t *testing.T) {
	for _, l := range []gates.List{ever(255), list(3, 10000, 255, 5000, 255, 5000), list(maxTime, 7, 255, 7)} {
		p := newPort(t, l, all(3))
		for class := range classes {
			for _, it := range []lanes.Item{frame(1, 64), frame(2, 0)} {
				holdPut(t, p, class, it, api.OK)
				for _, now := range []int{-1, -2, maxTime + 1, maxTime + 2, 2 * maxTime, -maxTime, least, most} {
					holdNoNext(t, p, now)
					holdNever(t, p, now)
				}
				for _, now := range []int{0, 1, maxTime - 1, maxTime} {
					holdWhen(t, p, now, now)
					holdNext(t, p, now, class, it)
					holdPut(t, p, class, it, api.OK)
				}
				holdClear(t, p, 1)
			}
		}
	}
	// A time that isn't one turns no list to another.
	p := newPort(t, ever(1), all(1))
	holdChange(t, p, list(100, 10, 2, 10), 0, api.OK)
	holdPut(t, p, 0, frame(1, 1), api.OK)
	holdNoNext(t, p, maxTime+1)
	holdNever(t, p, most)
	holdWhen(t, p, 93, 100)
	holdNext(t, p, 92, 0, frame(1, 1))
	// What Next tells hangs on the time alone, also if that goes back, as long as no other list is to come.
	p = newPort(t, window(2, 300, 100), all(1))
	for _, now := range []int{300, 500, 392, 100300, 393, 310, 0, 200392, 300} {
		holdPut(t, p, 2, frame(1, 1), api.OK)
		if now%100000 >= 300 && now%100000 <= 392 {
			holdNext(t, p, now, 2, frame(1, 1))
		} else {
			holdNoNext(t, p, now)
			holdClear(t, p, 1)
		}
	}
}

// P16.2: another list that is to come one nanosecond before a frame would be out, just then, and one behind; whatever that list does.
func TestListToCome(t *testing.T) {
	for _, size := range []int{1, 64, maxFrame} {
		for _, old := range []gates.List{ever(255), list(0, 100000, 255, 60000, 0, 40000)} {
			for _, open := range []int{0, 255, 16} {
				for _, from := range []int{20000, 50000, 59999, 60000} {
					p := newPort(t, old, all(2))
					holdChange(t, p, list(from, 1000, open, 1000), 10, api.OK)
					for _, now := range []int{from - 8*size, from - 8*size - 1, 10, from - 8*size - 8} {
						holdPut(t, p, 4, frame(1, size), api.OK)
						holdWhen(t, p, now, now)
						holdNext(t, p, now, 4, frame(1, size))
					}
					holdPut(t, p, 4, frame(1, size), api.OK)
					for _, now := range []int{from - 8*size + 1, from - 8*size + 2, from - 1} {
						holdNoNext(t, p, now)
						holdWhen(t, p, now, from)
					}
					if open == 0 {
						holdNoNext(t, p, from)
						continue
					}
					holdNext(t, p, from, 4, frame(1, size))
				}
			}
		}
	}
}

// P16.2: the gate's end and another list: whichever is sooner.
func TestSooner(t *testing.T) {
	for _, x := range []struct{ end, from int }{{1000, 2000}, {2000, 1000}, {1000, 1000}, {1000, 1001}, {1001, 1000}} {
		p := newPort(t, window(0, 0, x.end), all(1))
		holdChange(t, p, list(x.from, 100, 1, 100), 0, api.OK)
		last := min(x.end, x.from)
		holdPut(t, p, 0, frame(1, 100), api.OK)
		holdNoNext(t, p, last-799)
		holdNext(t, p, last-800, 0, frame(1, 100))
		holdPut(t, p, 0, frame(1, 100), api.OK)
		holdNoNext(t, p, x.from-1)
		holdNext(t, p, x.from, 0, frame(1, 100))
	}
}

// P16.2: a list that holds from now on: it alone is asked; it stays, though time may go back behind that.
func TestListFromNow(t *testing.T) {
	for _, now := range []int{0, 300, maxTime} {
		l := list(0, 100, 4, 50, 8, 50)
		l.Base = now
		p := newPort(t, ever(1), all(2))
		holdPut(t, p, 0, frame(1, 1), api.OK)
		holdPut(t, p, 2, frame(2, 1), api.OK)
		holdPut(t, p, 2, frame(3, 6), api.OK)
		holdChange(t, p, l, now, api.OK)
		holdNext(t, p, now, 2, frame(2, 1))
		holdNext(t, p, now, 2, frame(3, 6))
		holdNoNext(t, p, now)
		if now > 0 && now < maxTime {
			// A hundred ahead of the base its cycle is the same.
			holdNoNext(t, p, now-100)
			holdPut(t, p, 3, frame(4, 1), api.OK)
			holdWhen(t, p, now-100, now-50)
			holdNext(t, p, now-50, 3, frame(4, 1))
		}
	}
}

// P16.2: the highest class of those whose gate is open for long enough; a higher one has to wait, and keeps its frames in order.
func TestHighest(t *testing.T) {
	for high := 1; high < classes; high++ {
		for low := range high {
			// Both are open, then the lower one alone, then both.
			l := list(0, 3000, 1<<high|1<<low, 1000, 1<<low, 1000, 1<<high|1<<low, 1000)
			p := newPort(t, l, all(3))
			for id := range 3 {
				holdPut(t, p, low, frame(id, 64), api.OK)
				holdPut(t, p, high, frame(10+id, 64), api.OK)
			}
			holdNext(t, p, 488, high, frame(10, 64))
			holdNext(t, p, 489, low, frame(0, 64))
			holdNext(t, p, 1999, low, frame(1, 64))
			holdNext(t, p, 2000, high, frame(11, 64))
			holdNext(t, p, 2999, high, frame(12, 64))
			holdNext(t, p, 2999, low, frame(2, 64))
		}
	}
	// The gates close one behind another, the highest one first.
	l := list(0, 10000, 255, 100, 127, 100, 63, 100, 31, 100, 15, 100, 7, 100, 3, 100, 1, 100, 0, 1)
	for at := range 900 {
		p := newPort(t, l, all(1))
		for class := range classes {
			holdPut(t, p, class, frame(class, 10), api.OK)
		}
		for class := classes - 1; class >= 0; class-- {
			if 100*(classes-class)-at >= 80 {
				holdNext(t, p, at, class, frame(class, 10))
			}
		}
		holdNoNext(t, p, at)
	}
	// One that is too long doesn't let the next one of its class pass it.
	p := newPort(t, l, all(2))
	holdPut(t, p, 7, frame(1, 20), api.OK)
	holdPut(t, p, 7, frame(2, 1), api.OK)
	holdPut(t, p, 3, frame(3, 50), api.OK)
	holdNext(t, p, 0, 3, frame(3, 50))
	holdNoNext(t, p, 0)
	holdWhen(t, p, 0, 10000)
}

// P16.4: a frame that is picked has its gate open for all its time: each nanosecond of it, with another list to come anywhere.
func TestOpenAllItsTime(t *testing.T) {
	old, next := list(0, 200, 15, 90, 240, 60, 255, 50), list(7, 150, 240, 70, 15, 80)
	for change := 1; change < 400; change += 13 {
		for class := range classes {
			for _, size := range []int{0, 1, 3, 6} {
				p := newPort(t, old, all(1))
				from := change
				for (from-7)%150 != 0 {
					from++
				}
				holdChange(t, p, next, change, api.OK)
				for now := change; now < from+150; now++ {
					want := true
					for at := now; at < now+8*size; at++ {
						l := old
						if at >= from {
							l = next
						}
						want = want && isOpen(l, at, class) && (now >= from || at < from)
					}
					holdPut(t, p, class, frame(1, size), api.OK)
					if want {
						holdNext(t, p, now, class, frame(1, size))
					} else {
						holdNoNext(t, p, now)
						holdClear(t, p, 1)
					}
				}
			}
		}
	}
}
