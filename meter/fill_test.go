package meter_test

import (
	"testing"

	"sandglass/meter"
)

// emptied is a meter whose two pails hold so many whole bytes, and have none, at 0.
func emptied(t *testing.T, c meter.Conf) *meter.Meter {
	t.Helper()
	m := newMeter(t, c, 0)
	for left := c.Burst / 8; left > 0; left -= min(left, 1600) {
		holdIn(t, m, 0, min(left, 1600), meter.Green)
	}
	for left := c.Beyond / 8; left > 0; left -= min(left, 1600) {
		holdYellowIn(t, m, 0, min(left, 1600), meter.Yellow)
	}
	holdBits(t, m, c.Burst%8, c.Beyond%8)
	return m
}

// P10.2: the first pail gets Rate bits a second, the second one More, each up to what it holds.
func TestFill(t *testing.T) {
	for _, x := range []struct{ rate, more, now, first, second int }{
		{8, 0, 0, 0, 0}, {8, 0, second - 1, 7, 0}, {8, 0, second, 8, 0}, {8, 0, second + 1, 8, 0}, {8, 0, 10 * second, 80, 0}, {8, 0, 11 * second, 80, 0},
		{0, 8, second, 0, 8}, {0, 8, 3 * second, 0, 24}, {0, 8, 3*second + 1, 0, 24}, {0, 8, 4 * second, 0, 24}, {0, 0, maxTime, 0, 0},
		{3, 5, second, 3, 5}, {3, 5, second/3 + 1, 1, 1}, {3, 5, second / 3, 0, 1}, {3, 5, second / 5, 0, 1}, {3, 5, second/5 - 1, 0, 0},
		{second, 2 * second, 1, 1, 2}, {second, 2 * second, 12, 12, 24}, {second, 2 * second, 13, 13, 24}, {second, 2 * second, 80, 80, 24}, {second, 0, 81, 80, 0},
		{1, 1, maxTime, 80, 24}, {1, 2, 79*second + 999_999_999, 79, 24},
		{mostBits, mostBits, 1, 8, 8}, {mostBits, mostBits, 2, 17, 17}, {mostBits, mostBits, 9, 77, 24}, {mostBits, mostBits, 10, 80, 24},
		// What comes in such times is more than 64 bits hold, and would be naught of those.
		{mostBits, mostBits, 1 << 31, 80, 24}, {mostBits, mostBits, 1 << 30, 80, 24}, {mostBits, mostBits, 1<<31 + 1, 80, 24}, {mostBits, mostBits, maxTime, 80, 24}, {1 << 32, 1 << 25, 1 << 39, 80, 24},
	} {
		m := emptied(t, meter.Conf{Rate: x.rate, Burst: 80, More: x.more, Beyond: 24, Aware: true})
		holdIn(t, m, x.now, 0, meter.Green)
		holdBits(t, m, x.first, x.second)
	}
}

// P10.2: parts of bits count: many short times make what one long time does, to the very nanosecond.
func TestParts(t *testing.T) {
	for _, x := range []struct{ rate, step, full int }{
		// full: when there are 8 bits, rounded up.
		{8, second / 10, second}, {8, 999_999_999, second}, {8, 333_333_333, second}, {8, 7_777_777, second},
		{1, 1_999_999, 8 * second}, {3, 1_234_567, 2_666_666_667}, {7, 1_000_003, 1_142_857_143}, {1000, 77, 8_000_000}, {80_000, 1, 100_000}, {999_999, 3, 8001}, {999_999_999, 1, 9}, {mostBits, 1, 1}, {mostBits - 1, 1, 1}, {4_000_000_001, 1, 2}, {4_000_000_000, 1, 2}, {3_999_999_999, 1, 3},
	} {
		for _, isSecond := range []bool{false, true} {
			c := meter.Conf{Rate: x.rate, Burst: 80, More: x.rate, Beyond: 80, Aware: true}
			m := emptied(t, c)
			for now := 0; now < x.full-1; now += x.step {
				holdIn(t, m, now, 0, meter.Green)
			}
			holdIn(t, m, x.full-1, 1, meter.Red)
			if isSecond {
				holdYellowIn(t, m, x.full-1, 1, meter.Red)
				holdYellowIn(t, m, x.full, 1, meter.Yellow)
				continue
			}
			holdIn(t, m, x.full, 1, meter.Green)
		}
	}
}

// P10.2: what is left behind a frame, in parts of bits, stays; what a full pail gets is gone, to the last part.
func TestPartsStay(t *testing.T) {
	m := emptied(t, meter.Conf{Rate: 3, Burst: 80})
	// 8 bits take 2 2/3 seconds; three times that is 8 seconds.
	for _, now := range []int{2_666_666_667, 5_333_333_334, 8 * second} {
		holdIn(t, m, now-1, 1, meter.Red)
		holdIn(t, m, now, 1, meter.Green)
	}
	holdIn(t, m, 8*second+333_333_333, 0, meter.Green)
	holdBits(t, m, 0, 0)
	holdIn(t, m, 8*second+333_333_334, 0, meter.Green)
	holdBits(t, m, 1, 0)

	full := newMeter(t, meter.Conf{Rate: 3, Burst: 8}, 0)
	holdIn(t, full, 900_000_000, 1, meter.Green)
	holdIn(t, full, 900_000_000+2_666_666_666, 1, meter.Red)
	holdBits(t, full, 7, 0)
	// Not quite full: the part that fits is taken, the other one is gone.
	holdIn(t, full, 900_000_000+2_666_666_667, 0, meter.Green)
	holdBits(t, full, 8, 0)
	holdIn(t, full, 900_000_000+2_666_666_667, 1, meter.Green)
	holdIn(t, full, 900_000_000+2*2_666_666_667-1, 1, meter.Red)
	holdIn(t, full, 900_000_000+2*2_666_666_667, 1, meter.Green)
}

// P10.2: with Couple what the first pail can't hold goes into the second one: all of it when it is full, the rest when it is so in part, none when it isn't yet.
func TestCouple(t *testing.T) {
	for _, x := range []struct{ taken, now, first, second int }{
		// Burst 80, taken bytes of it; Rate 8 and More 1 a second.
		{0, second, 80, 9}, {0, 2 * second, 80, 18}, {0, second / 9, 80, 0}, {0, second/9 + 1, 80, 1},
		{1, second, 80, 1}, {1, second - 1, 79, 0}, {1, second + second/8, 80, 2}, {1, second + second/8 - 1, 80, 2}, {1, second + second/9, 80, 1}, {1, second + second/9 + 1, 80, 2},
		{5, 5 * second, 80, 5}, {5, 5*second - 1, 79, 4}, {5, 6 * second, 80, 14}, {5, 3 * second, 64, 3}, {10, 10 * second, 80, 10}, {10, 12 * second, 80, 28},
		// Nor does the second one hold more than Beyond.
		{0, 100 * second, 80, 800}, {0, 111 * second, 80, 800}, {0, 88 * second, 80, 792}, {0, 89 * second, 80, 800}, {10, maxTime, 80, 800},
	} {
		m := newMeter(t, meter.Conf{Rate: 8, Burst: 80, More: 1, Beyond: 800, Couple: true, Aware: true}, 0)
		holdYellowIn(t, m, 0, 100, meter.Yellow)
		holdIn(t, m, 0, x.taken, meter.Green)
		holdIn(t, m, x.now, 0, meter.Green)
		holdBits(t, m, x.first, x.second)
	}
}

// P10.2: without Couple what the first pail can't hold is gone.
func TestNoCouple(t *testing.T) {
	m := newMeter(t, meter.Conf{Rate: 8, Burst: 80, More: 1, Beyond: 800, Aware: true}, 0)
	holdYellowIn(t, m, 0, 100, meter.Yellow)
	holdIn(t, m, 3*second, 0, meter.Green)
	holdBits(t, m, 80, 3)
	holdIn(t, m, 3*second, 10, meter.Green)
	holdIn(t, m, 14*second, 0, meter.Green)
	holdBits(t, m, 80, 14)
}

// P10.2: with Couple it is one way: what the second pail can't hold doesn't go into the first one.
func TestCoupleOneWay(t *testing.T) {
	m := newMeter(t, meter.Conf{More: 1000, Burst: 80, Beyond: 8, Couple: true}, 0)
	holdIn(t, m, 0, 10, meter.Green)
	holdIn(t, m, 100*second, 1, meter.Yellow)
	holdIn(t, m, 100*second, 1, meter.Red)
	holdBits(t, m, 0, 0)
}

// P10.2: what comes by Couple is there in parts of bits, too, also beyond 64 bits.
func TestCoupleParts(t *testing.T) {
	m := newMeter(t, meter.Conf{Rate: 1, Burst: 8, Beyond: 8, Couple: true, Aware: true}, 0)
	holdYellowIn(t, m, 0, 1, meter.Yellow)
	for now := 0; now < 8*second; now += 123_456_789 {
		holdYellowIn(t, m, now, 1, meter.Red)
	}
	holdYellowIn(t, m, 8*second-1, 1, meter.Red)
	holdYellowIn(t, m, 8*second, 1, meter.Yellow)
	// The first pail lacks 8 bits from here on, of which 7 1/2 come, then 1: half a bit goes over.
	holdIn(t, m, 8*second, 1, meter.Green)
	holdIn(t, m, 15*second+second/2, 0, meter.Green)
	holdBits(t, m, 7, 0)
	holdIn(t, m, 16*second+second/2, 0, meter.Green)
	holdBits(t, m, 8, 0)
	holdIn(t, m, 17*second-1, 0, meter.Green)
	holdBits(t, m, 8, 0)
	holdIn(t, m, 17*second, 0, meter.Green)
	holdBits(t, m, 8, 1)

	great := newMeter(t, meter.Conf{Rate: mostBits, Burst: mostBits, More: mostBits, Beyond: mostBits, Couple: true, Aware: true}, 0)
	holdYellowIn(t, great, 0, 1600, meter.Yellow)
	holdBits(t, great, mostBits, mostBits-12800)
	holdYellowIn(t, great, 1, 0, meter.Yellow)
	holdBits(t, great, mostBits, mostBits-12800+17)
	holdIn(t, great, 1, 1600, meter.Green)
	holdIn(t, great, maxTime, 0, meter.Green)
	holdBits(t, great, mostBits, mostBits)
	wide := newMeter(t, meter.Conf{Rate: mostBits, Burst: 8, Beyond: 12800, Couple: true, Aware: true}, 0)
	holdYellowIn(t, wide, 0, 1600, meter.Yellow)
	holdIn(t, wide, 1<<31, 0, meter.Green)
	holdBits(t, wide, 8, 12800)
}
