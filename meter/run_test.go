package meter_test

import (
	"math/big"
	"testing"

	"sandglass/api"
	"sandglass/meter"
)

// plain is a meter whose pails are fractions of any length, in bits.
type plain struct {
	c             meter.Conf
	last          int
	first, second *big.Rat
	shut          bool
}

func whole(x int) *big.Rat { return new(big.Rat).SetInt64(int64(x)) }

func newPlain(c meter.Conf, now int) *plain {
	return &plain{c: c, last: now, first: whole(c.Burst), second: whole(c.Beyond)}
}

// come is how many bits come at a rate in so many nanoseconds.
func come(rate, gone int) *big.Rat {
	bits := new(big.Int).Mul(big.NewInt(int64(rate)), big.NewInt(int64(gone)))
	return new(big.Rat).SetFrac(bits, big.NewInt(second))
}

// lesser is the lesser of a pail and what it holds.
func lesser(pail *big.Rat, holds int) *big.Rat {
	if pail.Cmp(whole(holds)) > 0 {
		return whole(holds)
	}
	return pail
}

func (p *plain) in(now, size int, yellow bool) (int, api.Errno) {
	if size < 0 || size > 1600 {
		return meter.Red, api.ErrArg
	}
	if now < p.last {
		return meter.Red, api.ErrOrder
	}
	if now > maxTime {
		return meter.Red, api.ErrArg
	}
	all := new(big.Rat).Add(p.first, come(p.c.Rate, now-p.last))
	p.first = lesser(all, p.c.Burst)
	p.second = lesser(new(big.Rat).Add(p.second, come(p.c.More, now-p.last)), p.c.Beyond)
	if p.c.Couple {
		over := new(big.Rat).Sub(all, p.first)
		p.second = lesser(over.Add(over, p.second), p.c.Beyond)
	}
	p.last = now
	bits := whole(8 * size)
	if p.shut {
		return meter.Red, api.OK
	}
	if p.first.Cmp(bits) >= 0 && (!yellow || !p.c.Aware) {
		p.first = new(big.Rat).Sub(p.first, bits)
		return meter.Green, api.OK
	}
	if p.second.Cmp(bits) >= 0 {
		p.second = new(big.Rat).Sub(p.second, bits)
		return meter.Yellow, api.OK
	}
	p.shut = p.shut || p.c.Shut
	return meter.Red, api.OK
}

// floor is the whole bits of a pail.
func floor(pail *big.Rat) int {
	return int(new(big.Int).Quo(pail.Num(), pail.Denom()).Int64())
}

// chance is a row of numbers that looks like one at random, always the same.
type chance uint64

func (c *chance) below(n int) int {
	*c = *c*6364136223846793005 + 1442695040888963407
	return int(*c>>30) % n
}

// bits is a number of a setup: little, middling or great, at times nought or the most.
func (c *chance) bits() int {
	switch c.below(8) {
	case 0:
		return 0
	case 1:
		return mostBits - c.below(2)
	}
	return c.below(1 << (1 + c.below(33)))
}

// setup is any that is right; with plenty of bits little of them.
func (c *chance) setup() meter.Conf {
	x := meter.Conf{Rate: c.bits(), Burst: c.bits(), More: c.bits(), Beyond: c.bits(), Couple: c.below(2) == 0, Aware: c.below(2) == 0, Shut: c.below(3) == 0}
	if c.below(2) == 0 {
		x.Burst %= 30000
		x.Beyond %= 30000
	}
	return x
}

// green is a row of green frames, and whether more bits of them came than might.
type green struct {
	c     meter.Conf
	bits  int      // of all that were green
	least *big.Rat // of what had come ahead of each frame, less what Rate had made up to it
}

// add notes a green frame; false, if since some frame too many bits were green.
func (g *green) add(now, size int) bool {
	made := come(g.c.Rate, now)
	ahead := new(big.Rat).Sub(whole(g.bits), made)
	if g.least == nil || ahead.Cmp(g.least) < 0 {
		g.least = ahead
	}
	g.bits += 8 * size
	far := new(big.Rat).Sub(whole(g.bits), made)
	return far.Sub(far, g.least).Cmp(whole(g.c.Burst)) <= 0
}

// run sends frames at random to a meter and to a plain one, and holds them against each other.
func run(t *testing.T, c *chance, steps int) {
	t.Helper()
	conf, now := c.setup(), c.below(1<<c.below(38))
	m, p, g := newMeter(t, conf, now), newPlain(conf, now), &green{c: conf}
	span := 1 << (1 + c.below(34))
	for range steps {
		at, size, yellow := now+c.below(span)-c.below(2), c.below(1604)-2, c.below(3) == 0
		if c.below(4) == 0 {
			size = c.below(64)
		}
		if c.below(200) == 0 {
			at = maxTime + c.below(3)
		}
		if at > maxTime+3 {
			break
		}
		got, err := m.In(at, size, yellow)
		want, e := p.in(at, size, yellow)
		if got != want || err != e {
			t.Fatalf("%v: In(%d, %d, %v) is %d, %d, not %d, %d", conf, at, size, yellow, got, err, want, e)
		}
		if err == api.OK && got == meter.Green && !g.add(at, size) {
			t.Fatalf("%v: at %d more bits are green than may be", conf, at)
		}
		if c.below(40) == 0 {
			m.Open()
			p.shut = false
		}
		holdBits(t, m, floor(p.first), floor(p.second))
		holdShut(t, m, p.shut)
		now = p.last
		if now >= maxTime {
			break
		}
	}
}

// P10.2, P10.3, P10.4: many setups, long runs, held against fractions of any length.
func TestLongRuns(t *testing.T) {
	c := chance(1)
	for range 1500 {
		run(t, &c, 200)
	}
}

// P10.4: frames as fast as they may come: no more bits are green in any time than Burst and what Rate makes of it, but just as many may be.
func TestGreen(t *testing.T) {
	for _, conf := range []meter.Conf{
		{Rate: 8, Burst: 80}, {Rate: 1_000_000, Burst: 12800}, {Rate: 999_999_937, Burst: 12801}, {Rate: mostBits, Burst: 20000}, {Rate: 3, Burst: 8}, {Burst: 12800}, {Rate: 77777, Burst: 640, More: mostBits, Beyond: mostBits, Couple: true},
	} {
		m, g, now := newMeter(t, conf, 0), &green{c: conf}, 0
		c := chance(7)
		for step := 0; step < 20000 && now <= maxTime; step++ {
			size := 1 + c.below(min(1600, conf.Burst/8))
			colour, err := m.In(now, size, false)
			if err != api.OK {
				t.Fatalf("%v: In(%d, %d, false) is %d", conf, now, size, err)
			}
			if colour == meter.Green && !g.add(now, size) {
				t.Fatalf("%v: at %d more bits are green than may be", conf, now)
			}
			// Mostly about as fast as Rate, at times after a long while.
			now += c.below(1 + 2*8*size*second/(10+conf.Rate))
			if c.below(50) == 0 {
				now += c.below(second)
			}
		}
	}
	// Just as many: Burst at once, and then each bit when it has come.
	m := newMeter(t, meter.Conf{Rate: 8, Burst: 80}, 0)
	holdIn(t, m, 0, 10, meter.Green)
	for s := 1; s <= 1000; s++ {
		holdIn(t, m, s*second-1, 1, meter.Red)
		holdIn(t, m, s*second, 1, meter.Green)
	}
}
