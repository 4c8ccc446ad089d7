package merge_test

import (
	"testing"

	"sandglass/api"
	"sandglass/merge"
	"sandglass/seqr"
)

// chance is a row of numbers that looks like one at random, always the same.
type chance uint64

func (c *chance) below(n int) int {
	*c = *c*6364136223846793005 + 1442695040888963407
	return int(*c>>20) % n
}

// one is one of some numbers.
func (c *chance) one(xs ...int) int { return xs[c.below(len(xs))] }

// conf is a Seqr's setup.
func (c *chance) conf() seqr.Conf {
	return seqr.Conf{Way: c.one(seqr.Vector, seqr.Vector, seqr.Vector, seqr.Match), Len: c.one(1, 8, 16, 64, 1+c.below(64)), Reset: c.one(maxTime, 1+c.below(10000))}
}

// plain is a Merge by the chapter's words: it keeps what became of each frame since the Look that was due last.
type plain struct {
	c      merge.Conf
	seqrs  map[int]*seqr.Seqr // by way; all's by Ways
	since  []int
	look   int
	silent int
}

func newPlain(t *testing.T, c merge.Conf, now int) *plain {
	t.Helper()
	p := &plain{c: c, look: now, seqrs: map[int]*seqr.Seqr{}}
	for way := 0; way <= c.Ways; way++ {
		conf := c.One
		if way == c.Ways {
			conf = c.All
		}
		s, err := seqr.New(conf, now)
		if err != api.OK {
			t.Fatal("New of a Seqr is", err)
		}
		p.seqrs[way] = s
	}
	return p
}

func (p *plain) in(now, way, seq int) (bool, api.Errno) {
	if way < 0 || way > p.c.Ways-1 {
		return false, api.ErrPort
	}
	what, err := p.seqrs[way].In(now, seq)
	if err != api.OK {
		return false, err
	}
	if what == seqr.Again || what == seqr.Rogue {
		return false, api.OK
	}
	what, _ = p.seqrs[p.c.Ways].In(now, seq)
	p.since = append(p.since, what)
	return what == seqr.Taken || what == seqr.Late, api.OK
}

func (p *plain) lookAt(now int) bool {
	if now < p.look+p.c.Every || now > maxTime {
		return false
	}
	taken, again := 0, 0
	for _, what := range p.since {
		switch what {
		case seqr.Taken, seqr.Late:
			taken++
		case seqr.Again:
			again++
		}
	}
	p.since, p.look = nil, now
	if taken*(p.c.Ways-1)-again > p.c.Limit {
		p.silent++
		return true
	}
	return false
}

func (p *plain) counts(way int) [4]int {
	if s := p.seqrs[way]; s != nil {
		return s.Counts()
	}
	return [4]int{}
}

// told is how often something was so in runs.
type told struct{ taken, again, rogue, late, refused, due, silent int }

// run sends frames on several ways to a Merge and to a plain one, and holds them against each other.
func run(t *testing.T, c *chance, steps int, sum *told) {
	t.Helper()
	conf := merge.Conf{Ways: 1 + c.below(8), One: c.conf(), All: c.conf(), Every: 1 + c.below(1000), Limit: c.below(1 << c.below(7))}
	now := c.below(1000)
	m, p := newMerge(t, conf, now), newPlain(t, conf, now)
	// Each way is behind the first one by some, and loses some; one may lose all for a while.
	behind, dead := make([]int, conf.Ways), -1
	for i := range behind {
		behind[i] = c.below(1 + conf.All.Len/2)
	}
	for step := range steps {
		now += c.below(20)
		if c.below(100) == 0 {
			dead = c.below(conf.Ways+1) - 1
		}
		for way := range conf.Ways {
			at, seq, on := now, step-behind[way]+65000, way
			switch c.below(60) {
			case 0:
				seq += c.below(200) - 100
			case 1:
				on = c.one(-1, conf.Ways, conf.Ways+1, most, least)
			case 2:
				at = c.one(now-50, -1, least)
			}
			seq = (seq%numbers + numbers) % numbers
			if c.below(100) == 0 {
				seq = c.one(-1, numbers, most, least)
			}
			if way == dead || c.below(10) == 0 {
				continue
			}
			got, err := m.In(at, on, seq)
			want, e := p.in(at, on, seq)
			if got != want || err != e {
				t.Fatalf("%v: In(%d, %d, %d) is %v, %d, not %v, %d", conf, at, on, seq, got, err, want, e)
			}
			if err != api.OK {
				sum.refused++
			}
		}
		at := c.one(now, now, now, now-conf.Every, maxTime+1)
		was := p.look
		holdLook(t, m, at, p.lookAt(at))
		holdSilent(t, m, p.silent)
		if p.look != was {
			sum.due++
		}
		way := c.below(conf.Ways+3) - 1
		holdCounts(t, m, way, p.counts(way))
		if t.Failed() {
			t.Fatalf("%v", conf)
		}
	}
	all := m.Counts(conf.Ways)
	sum.taken += all[seqr.Taken]
	sum.again += all[seqr.Again]
	sum.rogue += all[seqr.Rogue]
	sum.late += all[seqr.Late]
	sum.silent += p.silent
}

// P14.2, P14.3: many setups, long runs, held against the chapter's words.
func TestLongRuns(t *testing.T) {
	c := chance(1)
	var sum told
	for range 400 {
		run(t, &c, 300, &sum)
	}
	if sum.taken < 1000 || sum.again < 1000 || sum.rogue < 1000 || sum.late < 1000 || sum.refused < 1000 || sum.due < 1000 || sum.silent < 1000 || sum.due-sum.silent < 1000 {
		t.Errorf("of something there is too little: %+v", sum)
	}
}

// P14.1: many setups in which something is wrong, or not.
func TestNewRuns(t *testing.T) {
	c := chance(2)
	seen := map[api.Errno]int{}
	rightOne := func(x seqr.Conf) bool {
		return (x.Way == 0 || x.Way == 1) && x.Len >= 1 && x.Len <= 64 && x.Reset >= 1 && x.Reset <= maxTime
	}
	for range 20000 {
		conf := merge.Conf{Ways: 1 + c.below(8), One: c.conf(), All: c.conf(), Every: 1 + c.below(maxTime), Limit: c.below(mostLimit + 1)}
		at := [...]*int{&conf.Ways, &conf.Every, &conf.Limit, &conf.One.Way, &conf.One.Len, &conf.One.Reset, &conf.All.Way, &conf.All.Len, &conf.All.Reset}
		for range c.below(3) {
			*at[c.below(len(at))] = c.one(-1, 0, 1, 2, 8, 9, 64, 65, mostLimit, mostLimit+1, maxTime, maxTime+1, most, least)
		}
		now := c.one(0, 0, 1, c.below(maxTime), maxTime, maxTime+1, -1, most, least)
		check, want := api.ErrArg, api.ErrArg
		if conf.Ways >= 1 && conf.Ways <= 8 && conf.Every >= 1 && conf.Every <= maxTime && conf.Limit >= 0 && conf.Limit <= mostLimit && rightOne(conf.One) && rightOne(conf.All) {
			check = api.OK
			if now >= 0 && now <= maxTime {
				want = api.OK
			}
		}
		seen[want]++
		holdNew(t, conf, now, check, want)
	}
	for _, err := range []api.Errno{api.OK, api.ErrArg} {
		if seen[err] < 1000 {
			t.Errorf("of %d there are only %d", err, seen[err])
		}
	}
}
