package port_test

import (
	"testing"

	"sandglass/api"
	"sandglass/gates"
)

// P16.3: where nothing waits there is nothing to look for, whatever else there is.
func TestWhenNothing(t *testing.T) {
	p := newPort(t, list(0, 100, 255, 50, 0, 50), all(1))
	for _, now := range []int{0, 10, 60, maxTime} {
		holdNever(t, p, now)
	}
	holdChange(t, p, list(1000, 100, 255, 100), 0, api.OK)
	holdNever(t, p, 10)
	for class := range classes {
		holdPut(t, p, class, frame(1, 1), api.OK)
		holdWhen(t, p, 10, 10)
		holdNext(t, p, 10, class, frame(1, 1))
		holdNever(t, p, 10)
		holdPut(t, p, class, frame(1, 1), api.OK)
		holdWhen(t, p, 60, 100)
		holdClear(t, p, 1)
		holdNever(t, p, 60)
	}
	// What was refused doesn't wait.
	p = newPort(t, ever(255), all(0))
	holdPut(t, p, 3, frame(1, 1), api.ErrFull)
	holdNever(t, p, 0)
}

// P16.3: the times that may be asked for; what is told may lie behind the last of them.
func TestWhenTimes(t *testing.T) {
	p := newPort(t, window(1, 500, 100), all(1))
	holdPut(t, p, 1, frame(1, 1), api.OK)
	for _, now := range []int{-1, -2, -maxTime, least, maxTime + 1, maxTime + 2, 2 * maxTime, most} {
		holdNever(t, p, now)
	}
	holdWhen(t, p, 0, 500)
	holdWhen(t, p, maxTime, maxTime-maxTime%100000+100500)
	holdWhen(t, p, maxTime-1, maxTime-maxTime%100000+100500)
	long := newPort(t, list(1, mostCycle, 2, 1, 2, 7, 0, 1), all(1))
	holdPut(t, long, 1, frame(1, 1), api.OK)
	holdWhen(t, long, maxTime, maxTime+1)
	holdWhen(t, long, maxTime-mostCycle, maxTime-mostCycle+1)
	holdWhen(t, long, maxTime-mostCycle+2, maxTime+1)
	ever := newPort(t, ever(0), all(1))
	holdPut(t, ever, 1, frame(1, 1), api.OK)
	holdChange(t, ever, list(0, mostCycle-1, 0, 1), maxTime, api.OK)
	holdWhen(t, ever, maxTime, maxTime-maxTime%(mostCycle-1)+mostCycle-1)
}

// P16.3: now, just if Next would pick one.
func TestWhenNow(t *testing.T) {
	for class := range classes {
		for _, size := range []int{1, 64, maxFrame} {
			p := newPort(t, window(class, 300, 8*size+5), all(1))
			holdPut(t, p, class, frame(1, size), api.OK)
			for now := 300; now <= 305; now++ {
				holdWhen(t, p, now, now)
			}
			holdWhen(t, p, 299, 300)
			holdWhen(t, p, 306, 100300)
			// One that could go out, but that another one of its class is ahead of, doesn't count.
			p = newPort(t, window(class, 300, 8*size-1), all(2))
			holdPut(t, p, class, frame(1, size), api.OK)
			holdPut(t, p, class, frame(2, 0), api.OK)
			holdWhen(t, p, 300, 100300)
			holdWhen(t, p, 0, 300)
		}
	}
	// A class that may go out now, below or above others that may not.
	for goes := range classes {
		p := newPort(t, list(0, 1000, 1<<goes, 100, 255&^(1<<goes), 1), all(1))
		for class := range classes {
			holdPut(t, p, class, frame(class, 1), api.OK)
		}
		holdWhen(t, p, 92, 92)
		holdWhen(t, p, 93, 100)
		holdNext(t, p, 92, goes, frame(goes, 1))
		holdWhen(t, p, 92, 100)
	}
}

// P16.3: a gate that is closed now: when it opens, in this cycle or in the next one, though it opens for too short a time.
func TestWhenClosed(t *testing.T) {
	for class := range classes {
		bit := 1 << class
		for _, size := range []int{1, 64} {
			p := newPort(t, list(20, 1000, 0, 100, bit, 3, 0, 97, bit, 4, bit, 3, 0, 50), all(1))
			holdPut(t, p, class, frame(1, size), api.OK)
			for _, x := range []struct{ now, want int }{
				{0, 120}, {20, 120}, {119, 120}, {123, 220}, {219, 220}, {227, 1120}, {228, 1120}, {1019, 1120}, {1020, 1120}, {1123, 1220},
				{1_000_000_000_020, 1_000_000_000_120}, {1_000_000_000_150, 1_000_000_000_220}, {1_000_000_000_227, 1_000_000_001_120},
			} {
				holdWhen(t, p, x.now, x.want)
				holdNoNext(t, p, x.now)
			}
		}
	}
}

// P16.3: a gate that is open now, but not for long enough: when it opens again, having been closed; not at a slot's begin in which it stays open.
func TestWhenTooShort(t *testing.T) {
	// Gate 2 is open from 700 over the cycle's end to 150, and from 300 to 310.
	p := newPort(t, list(0, 1000, 4, 100, 5, 50, 1, 150, 4, 10, 0, 390, 4, 100, 4, 100, 6, 1), all(1))
	holdPut(t, p, 2, frame(1, 100), api.OK)
	for _, x := range []struct{ now, want int }{
		{0, 300}, {99, 300}, {100, 300}, {149, 300}, {150, 300}, {299, 300}, {300, 700}, {309, 700}, {310, 700}, {699, 700},
		{700, 1300}, {799, 1300}, {800, 1300}, {950, 1300}, {1000, 1300}, {1150, 1300}, {1300, 1700}, {1700, 2300},
	} {
		holdWhen(t, p, x.now, x.want)
		holdNoNext(t, p, x.now)
	}
	holdClear(t, p, 1)
	holdPut(t, p, 2, frame(1, 56), api.OK)
	holdWhen(t, p, 699, 700)
	holdWhen(t, p, 700, 700)
	holdWhen(t, p, 702, 702)
	holdWhen(t, p, 703, 1300)
	// It is closed for one nanosecond alone, and open for 799 of 800.
	p = newPort(t, list(0, 800, 4, 400, 0, 1, 4, 1), all(1))
	holdPut(t, p, 2, frame(1, 100), api.OK)
	for _, x := range []struct{ now, want int }{{0, 401}, {399, 401}, {400, 401}, {401, 1201}, {402, 1201}, {1199, 1201}, {1200, 1201}} {
		holdWhen(t, p, x.now, x.want)
		holdNoNext(t, p, x.now)
	}
	holdClear(t, p, 1)
	holdPut(t, p, 2, frame(1, 99), api.OK)
	holdWhen(t, p, 400, 401)
	holdWhen(t, p, 401, 401)
	holdWhen(t, p, 408, 408)
	holdWhen(t, p, 409, 1201)
}

// P16.3: where no gate that is asked for ever opens there is no time; the gates of classes of which none waits don't count.
func TestWhenNever(t *testing.T) {
	for class := range classes {
		for _, l := range []gates.List{ever(255 &^ (1 << class)), list(0, 1000, 255&^(1<<class), 10, 0, 10, 255&^(1<<class), 10), ever(0)} {
			p := newPort(t, l, all(1))
			holdPut(t, p, class, frame(1, 1), api.OK)
			for _, now := range []int{0, 5, 15, 25, 999, 1000, maxTime} {
				holdNever(t, p, now)
				holdNoNext(t, p, now)
			}
			// Another list that is to come is to be looked at, though it doesn't open it either.
			holdChange(t, p, list(5000, 10, 255&^(1<<class), 5, 0, 5), 0, api.OK)
			holdWhen(t, p, 0, 5000)
			holdWhen(t, p, 4999, 5000)
			holdNoNext(t, p, 5000)
			holdNever(t, p, 5000)
			holdNever(t, p, 5007)
		}
	}
}

// P16.3: of several classes the one whose gate opens first, be it the highest one or the lowest one.
func TestWhenFirst(t *testing.T) {
	for one := range classes {
		for other := range classes {
			if one == other {
				continue
			}
			p := newPort(t, list(0, 1000, 0, 100, 1<<one, 100, 1<<other, 100, 0, 100, 1<<one|1<<other, 50, 0, 1), all(1))
			holdPut(t, p, one, frame(1, 100), api.OK)
			holdPut(t, p, other, frame(2, 100), api.OK)
			for _, x := range []struct{ now, want int }{{0, 100}, {99, 100}, {100, 200}, {199, 200}, {200, 400}, {300, 400}, {400, 1100}, {450, 1100}, {1100, 1200}} {
				holdWhen(t, p, x.now, x.want)
			}
			// A third class, whose gate never opens, changes nothing.
			third := 0
			for third == one || third == other {
				third++
			}
			holdPut(t, p, third, frame(3, 100), api.OK)
			holdWhen(t, p, 0, 100)
			holdWhen(t, p, 200, 400)
		}
	}
}

// P16.3: another list that is to come: sooner than the first gate that opens, just then, and later.
func TestWhenListToCome(t *testing.T) {
	for _, from := range []int{1, 299, 300, 301, 5000} {
		for _, open := range []int{0, 4, 255} {
			p := newPort(t, window(2, 300, 700), all(1))
			holdPut(t, p, 2, frame(1, 100), api.OK)
			holdChange(t, p, list(from, 1000, open, 1000), 0, api.OK)
			holdWhen(t, p, 0, min(from, 300))
			if from > 300 {
				// From 300 on it is open, but not for long enough; it opens again behind the other list.
				holdWhen(t, p, 299, 300)
				holdWhen(t, p, 300, from)
				holdWhen(t, p, min(from-1, 900), from)
			}
			holdWhen(t, p, from-1, from)
			if open == 0 {
				holdNever(t, p, from)
				holdNoNext(t, p, from)
				continue
			}
			holdWhen(t, p, from, from)
			holdNext(t, p, from, 2, frame(1, 100))
		}
	}
	// Once the other list holds nothing is to come, and its own gates are asked.
	p := newPort(t, ever(0), all(1))
	holdPut(t, p, 2, frame(1, 100), api.OK)
	holdChange(t, p, list(1000, 100, 4, 50, 1, 50), 10, api.OK)
	holdWhen(t, p, 10, 1000)
	holdWhen(t, p, 1000, 1100)
	holdWhen(t, p, 1099, 1100)
	holdWhen(t, p, 1100, 1200)
	// One that holds from now on isn't to come.
	holdChange(t, p, list(0, 300, 0, 200, 4, 100), 1200, api.OK)
	holdWhen(t, p, 1200, 1400)
	holdWhen(t, p, 1400, 1700)
	// The place of one that is to come is taken by another one.
	holdChange(t, p, list(5000, 10, 4, 10), 1400, api.OK)
	holdChange(t, p, list(1650, 10, 0, 10), 1500, api.OK)
	holdWhen(t, p, 1500, 1650)
	holdNever(t, p, 1650)
}

// P16.2, P16.3: between now and what When says Next has nothing; just then, unless it is open too short a time or a list only turns, it has a frame.
func TestWhenThenNext(t *testing.T) {
	l := list(13, 500, 1, 20, 2, 40, 7, 60, 0, 80, 128, 100, 6, 90)
	for class := range classes {
		for _, size := range []int{1, 5, 7, 12} {
			p := newPort(t, l, all(1))
			holdPut(t, p, class, frame(1, size), api.OK)
			for now := range 1100 {
				when, ok := p.When(now)
				if class >= 3 && class < 7 {
					if ok {
						t.Fatalf("When(%d) is %d, though gate %d never opens", now, when, class)
					}
					continue
				}
				if !ok || when < now {
					t.Fatalf("When(%d) is %d, %v", now, when, ok)
				}
				for at := now; at < when; at++ {
					holdNoNext(t, p, at)
				}
				fits := true
				for at := when; at < when+8*size; at++ {
					fits = fits && isOpen(l, at, class)
				}
				if fits {
					holdNext(t, p, when, class, frame(1, size))
					holdPut(t, p, class, frame(1, size), api.OK)
				} else {
					holdNoNext(t, p, when)
				}
				if when > now && (isOpen(l, when-1, class) || !isOpen(l, when, class)) {
					t.Errorf("When(%d) is %d, where gate %d doesn't open", now, when, class)
				}
			}
		}
	}
}
