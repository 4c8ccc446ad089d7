package pair_test

import (
	"testing"

	"sandglass/api"
	"sandglass/pair"
	"sandglass/ptp"
	"sandglass/stamp"
)

// standsBy is a pair whose domains were told at 1000 that it was 5000, and what the second one is ahead, fresh for 100; the own clock is the second domain's best one from 1000 on.
func standsBy(t *testing.T) *pair.Pair {
	t.Helper()
	p := newPair(t, 100)
	tellAt(t, p, 0, 1000, 5000, one+1<<34)
	tellAt(t, p, 1, 1000, 5000+other, one)
	p.Root(1, true, 1000)
	return p
}

// free lets the own clock be the second domain's no more, and is what that domain then tells at a time.
func free(p *pair.Pair, now stamp.Stamp) stamp.Stamp {
	p.Root(1, false, now)
	// Who asks for the other domain's time by Tell doesn't hold it any more.
	m, _ := p.Tell(1, 0, 0, 0, now)
	return m.Time + m.Corr
}

// P21.2: held ahead of each Tell of domain 0 and of domain 1, and each At, at their time; by nothing else.
func TestHold(t *testing.T) {
	const now = 1064 // by the rate of domain 0 that is half a part more, to the even one
	for _, x := range []struct {
		what string
		do   func(p *pair.Pair)
		held bool
	}{
		{"nothing", func(p *pair.Pair) {}, false},
		{"Tell of 0", func(p *pair.Pair) { p.Tell(0, 1, 2, 3, now) }, true},
		{"Tell of 1", func(p *pair.Pair) { p.Tell(1, 1, 2, 3, now) }, true},
		{"Tell of 0 that tells nothing", func(p *pair.Pair) { p.Tell(0, -1, 2, 3, now) }, true},
		{"Tell of 1 that tells nothing", func(p *pair.Pair) { p.Tell(1, -1, 2, 3, now) }, true},
		{"At", func(p *pair.Pair) { p.At(now) }, true},
		{"Tell of 2", func(p *pair.Pair) { p.Tell(2, 1, 2, 3, now) }, false},
		{"Tell of -1", func(p *pair.Pair) { p.Tell(-1, 1, 2, 3, now) }, false},
		{"Pick", func(p *pair.Pair) { p.Pick(now) }, false},
		{"Fresh of 0", func(p *pair.Pair) { p.Fresh(0, now) }, false},
		{"Fresh of 1", func(p *pair.Pair) { p.Fresh(1, now) }, false},
		{"Root of 0 as it is", func(p *pair.Pair) { p.Root(0, false, now) }, false},
		{"Root of 1 as it is", func(p *pair.Pair) { p.Root(1, true, now) }, false},
		{"Sync of 0", func(p *pair.Pair) { p.Sync(mark(0), now) }, false},
		{"Sync of 1", func(p *pair.Pair) { p.Sync(mark(1), now) }, false},
		{"Follow of 1", func(p *pair.Pair) { p.Follow(follow(1, 7, one), 0, one) }, false},
		{"Follow of 0", func(p *pair.Pair) {
			p.Sync(mark(0), now)
			p.Follow(follow(0, 7, one), 0, one)
		}, false},
	} {
		p := standsBy(t)
		x.do(p)
		want := stamp.Stamp(5064)
		if !x.held {
			want += other
		}
		if got := free(p, now); got != want {
			t.Errorf("by %s the second domain is at %d, not %d", x.what, int(got), int(want))
		}
	}
}

// P21.2: what is told then is what was held: by Tell of 1 the first domain's time; it is held each time anew.
func TestHoldTells(t *testing.T) {
	p := standsBy(t)
	holdTell(t, p, 1, 1064, 5064, 0, one)
	// The first one's own Tell is what it was told, and what has gone by since, by its rate.
	holdTell(t, p, 0, 1064, 5000, 64, one+1<<34)
	holdTell(t, p, 1, 1096, 5097, 0, one)
	holdAt(t, p, 1096, 5097)
	holdTell(t, p, 1, 1000, 5000, 0, one)
	holdTell(t, p, 1, 1100, 5101, 0, one)
	// The first one isn't fresh any more: the second one goes on from what it was held to last, by the own clock.
	holdTell(t, p, 1, 1101, 5102, 0, one)
	holdAt(t, p, 1228, 5229)
	holdTell(t, p, 0, 1228, 5000, 230, one+1<<34)
	// It is told anew.
	tellAt(t, p, 0, 1200, 9000, one)
	holdTell(t, p, 1, 1250, 9050, 0, one)
}

// P21.2: only where the own clock is domain 1's best one, and domain 0 is fresh, just so and one beyond.
func TestHoldWhere(t *testing.T) {
	for _, root := range []bool{false, true} {
		for now := stamp.Stamp(1098); now <= 1102; now++ {
			for _, by := range []func(p *pair.Pair){
				func(p *pair.Pair) { p.At(now) },
				func(p *pair.Pair) { p.Tell(0, 1, 2, 3, now) },
				func(p *pair.Pair) { p.Tell(1, 1, 2, 3, now) },
			} {
				p := standsBy(t)
				p.Root(1, root, 1000)
				by(p)
				want := now + 4001
				if !root || now > 1100 {
					want = now + 4000 + other
				}
				if got := free(p, now); got != want {
					t.Errorf("at %d, root %v, the second domain is at %d, not %d", int(now), root, int(got), int(want))
				}
			}
		}
	}
}

// P21.2: where the own clock is domain 0's best one, too, that domain is always fresh; where domain 0 knows nothing, nothing is held.
func TestHoldOwn(t *testing.T) {
	p := standsBy(t)
	p.Root(0, true, 1064)
	holdTell(t, p, 1, 50000*ns, 50000*ns+4000, 0, one)
	holdAt(t, p, -50000*ns, -50000*ns+4000)
	if got := free(p, -50000*ns); got != -50000*ns+4000 {
		t.Errorf("the second domain is at %d", int(got))
	}
	// As long as nothing is known of either.
	p = newPair(t, 100)
	p.Root(0, true, 0)
	p.Root(1, true, 0)
	holdTell(t, p, 1, 500, 500, 0, one)
	// Now something is known of the second one: what it was held to.
	p.Root(1, false, most)
	holdTell(t, p, 1, 505, most, 505-most, one)
	p = newPair(t, 100)
	p.Root(1, true, 0)
	tellAt(t, p, 0, 1000, 5000, one)
	holdAt(t, p, 1010, 5010)
	p = newPair(t, 100)
	tellAt(t, p, 1, 1000, 5000+other, one)
	p.Root(1, true, 1000)
	holdTell(t, p, 1, 1010, 5010+other, 0, one)
	holdAt(t, p, 1020, 5020+other)
	holdNoTell(t, p, 0, 1020)
}

// P21.2: the own clock becomes domain 1's best one, and isn't any more: held only between.
func TestHoldRoot(t *testing.T) {
	p := newPair(t, 1000)
	tellAt(t, p, 0, 1000, 5000, one)
	tellAt(t, p, 1, 1000, 5000+other, one)
	holdTell(t, p, 1, 1010, 5000+other, 10, one)
	p.Root(0, true, 1010)
	holdTell(t, p, 1, 1020, 5000+other, 20, one)
	p.Root(1, true, 1030)
	p.Root(1, false, 1040)
	// No Tell came between.
	holdTell(t, p, 1, 1050, 5040+other, 10, one)
	p.Root(1, true, 1060)
	for _, d := range strangers {
		p.Root(d, false, 1060)
	}
	holdTell(t, p, 1, 1070, 5070, 0, one)
	p.Root(1, false, 1080)
	for _, d := range strangers {
		p.Root(d, true, 1080)
	}
	tellAt(t, p, 1, 1090, 7000, one)
	holdTell(t, p, 1, 1100, 7000, 10, one)
	holdAt(t, p, 1100, 5100)
	holdTell(t, p, 1, 1100, 7000, 10, one)
}

// P21.2: nothing is held where domain 0 is fresh, but its At tells nothing.
func TestHoldUntold(t *testing.T) {
	p := newPair(t, 100)
	tellAt(t, p, 0, 0, 5000, one+1<<34)
	tellAt(t, p, 1, 0, 9000, one)
	p.Root(1, true, 0)
	holdFresh(t, p, 0, least, true)
	holdNoAt(t, p, least)
	holdNoTell(t, p, 0, least)
	holdTell(t, p, 1, least, least+9000, 0, one)
	holdTell(t, p, 1, 101, 9101, 0, one)
	holdTell(t, p, 1, 64, 5064, 0, one)
	holdTell(t, p, 1, 101, 5101, 0, one)
}

// P21.3: Pick ahead of anything told, from 0 to 1 and back, and where neither is fresh: what Pick told last.
func TestPick(t *testing.T) {
	p := newPair(t, 100)
	holdPick(t, p, 1000, -1)
	tellAt(t, p, 1, 1000, 0, one)
	// Something was told, but long ago.
	holdPick(t, p, 1101, -1)
	holdPick(t, p, 1100, 1)
	holdPick(t, p, 1101, 1)
	tellAt(t, p, 0, 2000, 0, one)
	tellAt(t, p, 1, 2050, 0, one)
	holdPick(t, p, 2100, 0)
	holdPick(t, p, 2101, 1)
	holdPick(t, p, 2100, 0)
	holdPick(t, p, 2200, 0)
	holdPick(t, p, 2150, 1)
	holdPick(t, p, 2151, 1)
	tellAt(t, p, 0, 2200, 0, one)
	holdPick(t, p, 2301, 1)
	holdPick(t, p, 2300, 0)
	holdPick(t, p, 2301, 0)
}

// P21.3: what Pick told last is what At told last, too; what Fresh and Tell tell is not.
func TestPickByAt(t *testing.T) {
	p := newPair(t, 100)
	tellAt(t, p, 0, 2000, 0, one)
	tellAt(t, p, 1, 2050, 500, one)
	holdFresh(t, p, 0, 2100, true)
	holdTell(t, p, 0, 2100, 0, 100, one)
	holdTell(t, p, 1, 2100, 500, 50, one)
	holdPick(t, p, 5000, -1)
	holdNoAt(t, p, 5000)
	holdAt(t, p, 2101, 551)
	holdPick(t, p, 5000, 1)
	holdAt(t, p, 5000, 3450)
	holdFresh(t, p, 0, 2100, true)
	holdTell(t, p, 0, 2100, 0, 100, one)
	holdAt(t, p, 5000, 3450)
	holdAt(t, p, 2100, 100)
	holdPick(t, p, 5000, 0)
	holdAt(t, p, 5000, 3000)
	// An At whose domain is fresh but tells nothing has told which one it is.
	p = newPair(t, 100)
	tellAt(t, p, 0, 0, 10, one)
	holdNoAt(t, p, 5000)
	holdPick(t, p, 5000, -1)
	tellAt(t, p, 0, 10, most, one)
	holdNoAt(t, p, 50)
	holdPick(t, p, 5000, 0)
	holdNoAt(t, p, 5000)
}

// P21.3: At is false where Pick is -1; else what that domain's clock tells, at its rate, if it tells anything.
func TestAt(t *testing.T) {
	p := newPair(t, 100)
	tellAt(t, p, 0, 1000, 5000, one+1<<34)
	tellAt(t, p, 1, 1100, 8000, one-1<<34)
	holdNoAt(t, p, 1201)
	holdAt(t, p, 1096, 5097)
	holdAt(t, p, 1128, 8028)
	holdAt(t, p, 1100+1280, 8000+1270)
	holdAt(t, p, 1000, 5000)
	holdAt(t, p, 1000+12800, 5000+12900)
	holdNoAt(t, p, most)
	holdNoAt(t, p, least)
	// The own clock, where it is the best one, by what was known.
	p.Root(0, true, 1000)
	holdAt(t, p, 1128, 5128)
	holdAt(t, p, 1000+12800, 5000+12800)
	p.Root(0, false, 1128)
	holdAt(t, p, 1228, 5228)
	holdAt(t, p, 1229, 5229)
}

// Two pairs never meet.
func TestTwo(t *testing.T) {
	p, q := newPair(t, 100), newPair(t, 5)
	tellAt(t, p, 0, 1000, 5000, one)
	p.Root(1, true, 0)
	holdUnknown(t, q)
	tellAt(t, q, 0, 1000, 6000, one)
	holdSync(t, q, mark(1), 1000, api.OK)
	holdAt(t, p, 1005, 5005)
	holdAt(t, q, 1005, 6005)
	holdPick(t, p, 1006, 0)
	holdFresh(t, q, 0, 1006, false)
	holdFresh(t, p, 0, 1006, true)
	holdFollow(t, q, ptp.Msg{Kind: ptp.Follow, Domain: 1, Seq: 4, Src: 9, Rate: one}, 0, one, api.OK)
}
