package meter_test

import (
	"math"
	"testing"

	"sandglass/api"
	"sandglass/meter"
)

const (
	most     = math.MaxInt
	least    = math.MinInt
	maxTime  = 1 << 40
	mostBits = 1 << 33
	second   = 1_000_000_000
)

// newMeter is a meter that must be there.
func newMeter(t *testing.T, c meter.Conf, now int) *meter.Meter {
	t.Helper()
	m, err := meter.New(c, now)
	if err != api.OK || m == nil {
		t.Fatalf("New(%v, %d) is a meter: %v, %d", c, now, m != nil, err)
	}
	return m
}

// holdIn holds an In of a frame that wasn't yellow against its colour.
func holdIn(t *testing.T, m *meter.Meter, now, size, colour int) {
	t.Helper()
	if got, err := m.In(now, size, false); got != colour || err != api.OK {
		t.Errorf("In(%d, %d, false) is %d, %d, not %d", now, size, got, err, colour)
	}
}

// holdYellowIn holds an In of a frame that was yellow against its colour.
func holdYellowIn(t *testing.T, m *meter.Meter, now, size, colour int) {
	t.Helper()
	if got, err := m.In(now, size, true); got != colour || err != api.OK {
		t.Errorf("In(%d, %d, true) is %d, %d, not %d", now, size, got, err, colour)
	}
}

// holdBits holds a meter against how many bits its pails have.
func holdBits(t *testing.T, m *meter.Meter, first, second int) {
	t.Helper()
	if got, gotSecond := m.Bits(); got != first || gotSecond != second {
		t.Errorf("Bits is %d, %d, not %d, %d", got, gotSecond, first, second)
	}
}

// holdShut holds a meter against whether it is shut.
func holdShut(t *testing.T, m *meter.Meter, want bool) {
	t.Helper()
	if got := m.Shut(); got != want {
		t.Errorf("Shut is %v, not %v", got, want)
	}
}

// holdRefused holds an In against its error, and that it changes nothing.
func holdRefused(t *testing.T, m *meter.Meter, now, size int, want api.Errno) {
	t.Helper()
	first, second := m.Bits()
	shut := m.Shut()
	for _, yellow := range []bool{false, true} {
		if got, err := m.In(now, size, yellow); got != meter.Red || err != want {
			t.Errorf("In(%d, %d, %v) is %d, %d, not Red, %d", now, size, yellow, got, err, want)
		}
	}
	holdBits(t, m, first, second)
	holdShut(t, m, shut)
}

// numbers are the four numbers of a setup, each of which may be changed.
func numbers(c *meter.Conf) []*int { return []*int{&c.Rate, &c.Burst, &c.More, &c.Beyond} }

// P10.1: each number of a setup at its ends and beyond.
func TestCheck(t *testing.T) {
	for i := range 4 {
		for _, flags := range []meter.Conf{{}, {Couple: true, Aware: true, Shut: true}, {Rate: 1, Burst: 2, More: 3, Beyond: 4}, {Rate: mostBits, Burst: mostBits, More: mostBits, Beyond: mostBits}} {
			for _, x := range []int{0, 1, 8, 1 << 32, mostBits - 1, mostBits} {
				c := flags
				*numbers(&c)[i] = x
				if err := c.Check(); err != api.OK {
					t.Errorf("Check of %v is %d", c, err)
				}
				newMeter(t, c, 0)
			}
			for _, x := range []int{-1, -8, mostBits + 1, 1 << 34, 1 << 62, most, least} {
				c := flags
				*numbers(&c)[i] = x
				if err := c.Check(); err != api.ErrArg {
					t.Errorf("Check of %v is %d", c, err)
				}
				for _, now := range []int{0, -1, maxTime + 1} {
					if m, err := meter.New(c, now); m != nil || err != api.ErrArg {
						t.Errorf("New(%v, %d) is a meter: %v, %d", c, now, m != nil, err)
					}
				}
			}
		}
	}
}

// P10.1: the times at which a meter may be new, and that its pails are full.
func TestNew(t *testing.T) {
	for _, now := range []int{0, 1, second, maxTime - 1, maxTime} {
		for _, c := range []meter.Conf{{Rate: 1, Burst: 80, More: 2, Beyond: 16}, {}, {Burst: mostBits}, {Beyond: mostBits}, {Burst: mostBits, Beyond: mostBits, Couple: true}} {
			m := newMeter(t, c, now)
			holdBits(t, m, c.Burst, c.Beyond)
			holdShut(t, m, false)
			holdIn(t, m, now, 0, meter.Green)
			holdBits(t, m, c.Burst, c.Beyond)
		}
	}
	for _, now := range []int{-1, maxTime + 1, 1 << 41, most, least} {
		if m, err := meter.New(meter.Conf{Rate: 1, Burst: 80}, now); m != nil || err != api.ErrArg {
			t.Errorf("New at %d is a meter: %v, %d", now, m != nil, err)
		}
	}
	if meter.Green != 0 || meter.Yellow != 1 || meter.Red != 2 {
		t.Error("the colours are", meter.Green, meter.Yellow, meter.Red)
	}
}

// P10.2: the chapter's example.
func TestExample(t *testing.T) {
	m := newMeter(t, meter.Conf{Rate: 8, Burst: 80}, 0)
	holdIn(t, m, 0, 10, meter.Green)
	holdIn(t, m, 0, 1, meter.Red)
	holdIn(t, m, second, 1, meter.Green)
	holdIn(t, m, second, 1, meter.Red)
}

// P10.2: which sizes a frame may have.
func TestSizes(t *testing.T) {
	m := newMeter(t, meter.Conf{Burst: mostBits}, 5)
	has := mostBits
	for _, size := range []int{0, 1, 2, 64, 1518, 1599, 1600} {
		holdIn(t, m, 5, size, meter.Green)
		has -= 8 * size
		holdBits(t, m, has, 0)
	}
	for _, size := range []int{-1, -8, 1601, 1602, 1 << 30, 1<<32 + 64, 1 << 61, most, least} {
		for _, now := range []int{5, 6, maxTime, maxTime + 1, 4, -1, most, least} {
			holdRefused(t, m, now, size, api.ErrArg)
		}
	}
	holdIn(t, m, 5, 64, meter.Green)
}

// P10.2: times ahead of the last one, at it, and above MaxTime, in the order of their errors.
func TestTimes(t *testing.T) {
	m := newMeter(t, meter.Conf{Rate: 8, Burst: 80, Beyond: 8}, 100)
	for _, now := range []int{99, 0, -1, least} {
		holdRefused(t, m, now, 1, api.ErrOrder)
	}
	for _, now := range []int{maxTime + 1, maxTime + 2, 1 << 62, most} {
		holdRefused(t, m, now, 1, api.ErrArg)
	}
	holdIn(t, m, 100, 1, meter.Green)
	holdIn(t, m, 101, 1, meter.Green)
	holdRefused(t, m, 100, 1, api.ErrOrder)
	holdIn(t, m, 101, 0, meter.Green)
	holdIn(t, m, maxTime-1, 1600, meter.Red)
	holdRefused(t, m, maxTime-2, 0, api.ErrOrder)
	holdIn(t, m, maxTime, 10, meter.Green)
	holdIn(t, m, maxTime, 1, meter.Yellow)
	holdIn(t, m, maxTime, 1, meter.Red)
	holdRefused(t, m, maxTime-1, 0, api.ErrOrder)
	holdRefused(t, m, maxTime+1, 0, api.ErrArg)
	late := newMeter(t, meter.Conf{Burst: 8}, maxTime)
	holdRefused(t, late, maxTime-1, 1, api.ErrOrder)
	holdRefused(t, late, maxTime+1, 1, api.ErrArg)
	holdIn(t, late, maxTime, 1, meter.Green)
}

// P10.2: the time of a call that was refused doesn't count; that of a red frame does, also of one at a meter that is shut.
func TestLastTime(t *testing.T) {
	m := newMeter(t, meter.Conf{Rate: 8, Burst: 80}, 0)
	holdIn(t, m, 0, 10, meter.Green)
	holdRefused(t, m, 5*second, 1601, api.ErrArg)
	holdRefused(t, m, maxTime+1, 1, api.ErrArg)
	holdBits(t, m, 0, 0)
	holdIn(t, m, second, 1, meter.Green)
	holdIn(t, m, 2*second, 2, meter.Red)
	holdBits(t, m, 8, 0)
	holdRefused(t, m, 2*second-1, 1, api.ErrOrder)
	holdIn(t, m, 3*second, 2, meter.Green)

	shut := newMeter(t, meter.Conf{Rate: 8, Burst: 80, Shut: true}, 0)
	holdIn(t, shut, 0, 10, meter.Green)
	holdIn(t, shut, 0, 1, meter.Red)
	holdIn(t, shut, second, 1, meter.Red)
	holdBits(t, shut, 8, 0)
	holdRefused(t, shut, 0, 1, api.ErrOrder)
	holdIn(t, shut, 3*second, 1, meter.Red)
	shut.Open()
	holdRefused(t, shut, 2*second, 1, api.ErrOrder)
	holdIn(t, shut, 3*second, 3, meter.Green)
	holdIn(t, shut, 3*second, 1, meter.Red)
}

// P10.2: a frame of just as many bits as a pail has, and of one byte more.
func TestJustEnough(t *testing.T) {
	for _, bytes := range []int{0, 1, 2, 10, 64, 1599} {
		c := meter.Conf{Burst: 8 * bytes, Beyond: 8*bytes + 8}
		m := newMeter(t, c, 0)
		holdIn(t, m, 0, bytes+1, meter.Yellow)
		holdBits(t, m, 8*bytes, 0)
		holdIn(t, m, 0, bytes+1, meter.Red)
		holdBits(t, m, 8*bytes, 0)
		holdIn(t, m, 0, bytes, meter.Green)
		holdBits(t, m, 0, 0)
		holdIn(t, m, 0, 1, meter.Red)
		holdIn(t, m, 0, 0, meter.Green)
	}
	// One bit less than the frame has isn't enough.
	for bits := 80; bits < 88; bits++ {
		m := newMeter(t, meter.Conf{Burst: bits, Beyond: bits + 8}, 0)
		holdIn(t, m, 0, 11, meter.Yellow)
		holdIn(t, m, 0, 10, meter.Green)
		holdBits(t, m, bits-80, bits+8-88)
		holdIn(t, m, 0, 1, meter.Red)
	}
	m := newMeter(t, meter.Conf{Burst: 87, Beyond: 87}, 0)
	holdIn(t, m, 0, 11, meter.Red)
	holdIn(t, m, 0, 10, meter.Green)
	holdIn(t, m, 0, 10, meter.Yellow)
	holdIn(t, m, 0, 10, meter.Red)
	holdBits(t, m, 7, 7)
}

// P10.2: a green frame leaves the second pail alone, a yellow one the first, a red one both.
func TestPails(t *testing.T) {
	m := newMeter(t, meter.Conf{Burst: 40, Beyond: 24}, 0)
	holdIn(t, m, 0, 2, meter.Green)
	holdBits(t, m, 24, 24)
	holdIn(t, m, 0, 4, meter.Red)
	holdBits(t, m, 24, 24)
	holdIn(t, m, 0, 2, meter.Green)
	holdBits(t, m, 8, 24)
	holdIn(t, m, 0, 2, meter.Yellow)
	holdBits(t, m, 8, 8)
	holdIn(t, m, 0, 2, meter.Red)
	holdIn(t, m, 0, 1, meter.Green)
	holdIn(t, m, 0, 1, meter.Yellow)
	holdBits(t, m, 0, 0)
	holdIn(t, m, 0, 1, meter.Red)
	// Nothing comes without a rate.
	holdIn(t, m, maxTime, 1, meter.Red)
	holdBits(t, m, 0, 0)
}

// P10.2: a yellow frame is never green with Aware, and is one like any other without.
func TestAware(t *testing.T) {
	for _, aware := range []bool{false, true} {
		c := meter.Conf{Burst: 80, Beyond: 24, Aware: aware}
		m := newMeter(t, c, 0)
		holdIn(t, m, 0, 1, meter.Green)
		if aware {
			holdYellowIn(t, m, 0, 2, meter.Yellow)
			holdBits(t, m, 72, 8)
			holdYellowIn(t, m, 0, 0, meter.Yellow)
			holdYellowIn(t, m, 0, 2, meter.Red)
			holdBits(t, m, 72, 8)
			holdIn(t, m, 0, 9, meter.Green)
			holdIn(t, m, 0, 1, meter.Yellow)
		} else {
			holdYellowIn(t, m, 0, 2, meter.Green)
			holdBits(t, m, 56, 24)
			holdYellowIn(t, m, 0, 0, meter.Green)
			holdYellowIn(t, m, 0, 7, meter.Green)
			holdYellowIn(t, m, 0, 3, meter.Yellow)
		}
		holdBits(t, m, 0, 0)
	}
	// A red one that was yellow shuts, too.
	m := newMeter(t, meter.Conf{Burst: 80, Aware: true, Shut: true}, 0)
	holdYellowIn(t, m, 0, 0, meter.Yellow)
	holdYellowIn(t, m, 0, 1, meter.Red)
	holdShut(t, m, true)
	holdBits(t, m, 80, 0)
}

// P10.2, P10.3: behind a red frame all are red with Shut, until Open; without Shut none is for that.
func TestShut(t *testing.T) {
	m := newMeter(t, meter.Conf{Burst: 80, Beyond: 80, Shut: true}, 0)
	m.Open()
	holdIn(t, m, 0, 5, meter.Green)
	holdIn(t, m, 0, 6, meter.Yellow)
	holdShut(t, m, false)
	holdIn(t, m, 0, 6, meter.Red)
	holdShut(t, m, true)
	for _, size := range []int{0, 1, 5, 1600} {
		holdIn(t, m, 0, size, meter.Red)
		holdYellowIn(t, m, 0, size, meter.Red)
		holdShut(t, m, true)
	}
	holdBits(t, m, 40, 32)
	for range 2 {
		m.Open()
		holdShut(t, m, false)
		holdBits(t, m, 40, 32)
	}
	holdIn(t, m, 0, 5, meter.Green)
	holdIn(t, m, 0, 4, meter.Yellow)
	holdShut(t, m, false)
	holdIn(t, m, 0, 1, meter.Red)
	holdShut(t, m, true)
	m.Open()
	holdIn(t, m, 0, 0, meter.Green)
	holdIn(t, m, 0, 1, meter.Red)
	holdShut(t, m, true)

	open := newMeter(t, meter.Conf{Burst: 8}, 0)
	for range 3 {
		holdIn(t, open, 0, 2, meter.Red)
		holdShut(t, open, false)
	}
	holdIn(t, open, 0, 1, meter.Green)
	// A call that is refused is told Red, but shuts nothing.
	careful := newMeter(t, meter.Conf{Burst: 8, Shut: true}, 5)
	holdRefused(t, careful, 4, 1, api.ErrOrder)
	holdRefused(t, careful, 5, 1601, api.ErrArg)
	holdRefused(t, careful, maxTime+1, 1, api.ErrArg)
	holdIn(t, careful, 5, 1, meter.Green)
}

// P10.2, P10.3: the nil meter.
func TestNil(t *testing.T) {
	var m *meter.Meter
	for _, n := range []int{0, 1, -1, 1600, 1601, maxTime, most, least} {
		for _, size := range []int{0, 1, -1, 1601, n} {
			holdRefused(t, m, n, size, api.ErrArg)
		}
	}
	m.Open()
	holdShut(t, m, false)
	holdBits(t, m, 0, 0)
}

// P10.2: a meter that New didn't make has no bits and gets none; no call of it panics.
func TestNotNew(t *testing.T) {
	var m meter.Meter
	holdIn(t, &m, 0, 1, meter.Red)
	holdIn(t, &m, maxTime, 1, meter.Red)
	holdBits(t, &m, 0, 0)
	m.Open()
	holdShut(t, &m, false)
}

// P10.1: two meters of one setup never meet.
func TestTwo(t *testing.T) {
	c := meter.Conf{Burst: 80, Shut: true}
	a, b := newMeter(t, c, 0), newMeter(t, c, 0)
	holdIn(t, a, 9, 8, meter.Green)
	holdIn(t, a, 9, 8, meter.Red)
	holdBits(t, b, 80, 0)
	holdShut(t, b, false)
	holdIn(t, b, 0, 10, meter.Green)
	holdBits(t, a, 16, 0)
}
