package seqr_test

import (
	"math/big"
	"testing"

	"sandglass/api"
	"sandglass/seqr"
)

// chance is a row of numbers that looks like one at random, always the same.
type chance uint64

func (c *chance) below(n int) int {
	*c = *c*6364136223846793005 + 1442695040888963407
	return int(*c>>20) % n
}

// one is one of some numbers.
func (c *chance) one(xs ...int) int { return xs[c.below(len(xs))] }

// plain is a Seqr by the chapter's words. Its numbers go on and on, and round no end: each is a number's place in one long row.
type plain struct {
	c      seqr.Conf
	isNew  bool
	last   int
	came   map[int]bool // since the last Reset, however long ago
	when   int
	counts map[int]int
	resets int
	lost   int
}

func newPlain(c seqr.Conf) *plain {
	return &plain{c: c, isNew: true, counts: map[int]int{}}
}

func (p *plain) reset() {
	p.resets++
	p.isNew, p.came = true, nil
}

// silent is whether it is Reset or more since a frame was taken.
func (p *plain) silent(now int) bool {
	gone := new(big.Int).Sub(big.NewInt(int64(now)), big.NewInt(int64(p.when)))
	return gone.Cmp(big.NewInt(int64(p.c.Reset))) >= 0
}

// place is where a number is in the long row: nearest to the last one, and behind it if it is just as far ahead.
func (p *plain) place(seq int) int {
	d := seq - p.last%numbers
	for d > 32767 {
		d -= numbers
	}
	for d < -32768 {
		d += numbers
	}
	return p.last + d
}

func (p *plain) in(now, seq int) (int, api.Errno) {
	if seq < 0 || seq > 65535 {
		return seqr.Rogue, api.ErrArg
	}
	if !p.isNew && p.silent(now) {
		p.reset()
	}
	what := p.tell(seq)
	p.counts[what]++
	if what == seqr.Taken || what == seqr.Late {
		p.isNew = false
		p.when = now
	}
	return what, api.OK
}

func (p *plain) tell(seq int) int {
	if p.isNew {
		// Far enough from 0 that it never goes below.
		p.last = 1000*numbers + seq
		p.came = map[int]bool{p.last: true}
		return seqr.Taken
	}
	if p.c.Way == seqr.Match {
		if p.last%numbers == seq {
			return seqr.Again
		}
		p.last = 1000*numbers + seq
		return seqr.Taken
	}
	at := p.place(seq)
	switch {
	case at >= p.last+p.c.Len || at <= p.last-p.c.Len:
		return seqr.Rogue
	case at <= p.last && p.came[at]:
		return seqr.Again
	case at <= p.last:
		p.came[at] = true
		return seqr.Late
	}
	for x := p.last - p.c.Len + 1; x <= at-p.c.Len; x++ {
		if !p.came[x] {
			p.lost++
		}
	}
	p.last = at
	p.came[at] = true
	return seqr.Taken
}

// told holds a Seqr against what the plain one tells.
func (p *plain) told(t *testing.T, s *seqr.Seqr) {
	t.Helper()
	holdTold(t, s, [4]int{p.counts[0], p.counts[1], p.counts[2], p.counts[3]}, p.resets, p.lost)
}

// number is one for a Seqr whose last one is known: mostly near it, at times at the edges of what is near, or anywhere, or none.
func (c *chance) number(last, long int) int {
	switch c.below(20) {
	case 0:
		return c.one(wrongNumbers()...)
	case 1:
		return c.below(numbers)
	case 2:
		return round(last + c.one(0, 1, -1, long-1, 1-long, long, -long, long+1, -long-1, 32767, 32768, 32769))
	case 3, 4:
		return round(last + c.below(2*long+3) - long - 1)
	}
	return round(last + 2 - c.below(5))
}

// time is one for a Seqr at which a frame was taken last at when: mostly soon, at times round its Reset, ahead of it, or anywhere.
func (c *chance) time(now, when, reset int) int {
	switch c.below(40) {
	case 0:
		return when + reset + c.below(3) - 1
	case 1:
		return now - c.below(1000)
	case 2:
		return c.one(0, -1, maxTime, maxTime+1, most-2*maxTime, least+2*maxTime)
	}
	return now + c.below(1+reset/50)
}

// run sends frames at random to a Seqr and to a plain one, and holds them against each other.
func run(t *testing.T, c *chance, steps int) (counts [4]int, resets, lost int) {
	t.Helper()
	conf := seqr.Conf{Way: c.one(seqr.Vector, seqr.Vector, seqr.Vector, seqr.Match), Len: c.one(1, 2, 3, 4, 8, 63, 64, 1+c.below(64)), Reset: 1 + c.below(1<<c.below(41))}
	now := c.below(1 << c.below(41))
	s, p := newSeqr(t, conf, now), newPlain(conf)
	for range steps {
		at, seq := c.time(now, p.when, conf.Reset), c.number(p.last, conf.Len)
		what, err := s.In(at, seq)
		want, e := p.in(at, seq)
		if what != want || err != e {
			t.Fatalf("%v: In(%d, %d) is %d, %d, not %d, %d", conf, at, seq, what, err, want, e)
		}
		if c.below(200) == 0 {
			s.Reset()
			p.reset()
		}
		p.told(t, s)
		now = p.when
	}
	if t.Failed() {
		t.Fatalf("%v", conf)
	}
	return s.Counts(), s.Resets(), s.Lost()
}

// P13.2, P13.3: many setups, long runs, held against the chapter's words.
func TestLongRuns(t *testing.T) {
	c := chance(1)
	var sum [4]int
	resets, lost := 0, 0
	for range 600 {
		counts, r, l := run(t, &c, 500)
		for what, n := range counts {
			sum[what] += n
		}
		resets += r
		lost += l
	}
	for what, n := range sum {
		if n < 5000 {
			t.Errorf("of %d there are only %d", what, n)
		}
	}
	if resets < 5000 || lost < 5000 {
		t.Errorf("there are only %d Resets, %d lost", resets, lost)
	}
}

// seen is when a number was taken last: where the last number was then, in the long row that goes round no end.
type seen struct{ number, last int }

// P13.4: in runs that go round many times, with frames on two ways, late ones and wrong ones: between two Resets no number is taken twice within a window.
func TestTakenOnce(t *testing.T) {
	c := chance(3)
	for _, long := range []int{2, 3, 16, 63, 64} {
		s := vector(t, long)
		taken := map[int]seen{}
		last, twice := 0, 0
		holdIn(t, s, 0, 0, seqr.Taken)
		taken[0] = seen{}
		for step := range 300_000 {
			// One that is a little behind, one that is just ahead of the window's end, and now and then one from anywhere.
			seq := round(last + c.below(2*long) - long)
			switch c.below(8) {
			case 0:
				seq = round(last + long - 1)
			case 1:
				seq = c.below(numbers)
			}
			what, err := s.In(step, seq)
			if err != api.OK {
				t.Fatalf("In(%d, %d) is %d", step, seq, err)
			}
			if what != seqr.Taken && what != seqr.Late {
				continue
			}
			at := last + int(int16(seq-round(last)))
			if was, ok := taken[seq]; ok {
				twice++
				// Another one in the long row, and so a whole round away; and ahead of the last number then by Len or more.
				if at < was.number+numbers || at < was.last+long {
					t.Fatalf("of %d: %d is taken at %d and at %d", long, seq, was.number, at)
				}
			}
			if what == seqr.Taken {
				last = at
			}
			taken[seq] = seen{at, last}
		}
		if rounds := last / numbers; rounds < 2 && long > 3 || s.Resets() != 0 || long > 3 && twice < 1000 {
			t.Errorf("of %d: %d rounds, %d Resets, %d numbers are taken twice", long, rounds, s.Resets(), twice)
		}
	}
}

// P13.4: two ways that bring the same numbers, one of them later by less than the window: each number is taken once, none is lost.
func TestTwoWays(t *testing.T) {
	c := chance(5)
	for _, long := range []int{2, 4, 32, 64} {
		for behind := range long {
			s := vector(t, long)
			got := map[int]int{}
			take := func(now, at int) {
				if what, err := s.In(now, round(at)); err == api.OK && (what == seqr.Taken || what == seqr.Late) {
					got[at]++
				}
			}
			const many = 1000
			take(0, 0)
			for at := range many + behind {
				// The first way loses some of its frames; the other one none.
				if at < many && c.below(3) > 0 {
					take(at, at)
				}
				if at >= behind {
					take(at, at-behind)
				}
			}
			for at := range many {
				if got[at] != 1 {
					t.Fatalf("of %d, %d behind: %d is taken %d times", long, behind, at, got[at])
				}
			}
			// Those ahead of the first one alone.
			if s.Lost() != long-1 {
				t.Errorf("of %d, %d behind: Lost is %d", long, behind, s.Lost())
			}
		}
	}
}
