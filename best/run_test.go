package best_test

import (
	"math/big"
	"testing"

	"sandglass/best"
	"sandglass/ptp"
)

// chance is a row of numbers that looks like one at random, always the same.
type chance uint64

func (c *chance) below(n int) int {
	*c = *c*6364136223846793005 + 1442695040888963407
	return int(*c>>20) % n
}

// number is one of few, so that two are often the same; seldom one at an end.
func (c *chance) number(few int) int {
	if c.below(60) == 0 {
		return numbers[c.below(len(numbers))]
	}
	return c.below(few) - few/2
}

func (c *chance) prior() ptp.Prior {
	return ptp.Prior{One: c.number(3), Class: c.number(2), Two: c.number(2), Id: c.number(4)}
}

func (c *chance) vec() best.Vec {
	return best.Vec{Root: c.prior(), Steps: c.number(4), From: c.number(5), Port: c.number(5), At: c.number(5)}
}

// row is numbers of any length, those that weigh most first.
type row []*big.Int

func num(x int) *big.Int { return big.NewInt(int64(x)) }

func rowOf(p ptp.Prior) row { return row{num(p.One), num(p.Class), num(p.Two), num(p.Id)} }

func rowOfVec(v best.Vec) row {
	return append(rowOf(v.Root), num(v.Steps), num(v.From), num(v.Port), num(v.At))
}

// cmp is which of two rows is the better one: by the first number in which they differ.
func (r row) cmp(s row) int {
	for i := range r {
		if d := r[i].Cmp(s[i]); d != 0 {
			return d
		}
	}
	return 0
}

// isChoice tells whether a port may be the one at which the best clock is heard.
func isChoice(own ptp.Prior, h best.Heard) bool {
	return h.Up && h.Ok && rowOf(h.Vec.Root).cmp(rowOf(own)) < 0
}

// plainChoice is the vector of the port than whose no other one's is better, by the chapter's words.
func plainChoice(own ptp.Prior, ports []best.Heard) best.Vec {
	for at, h := range ports {
		v := h.Vec
		v.At = at
		isBest := isChoice(own, h)
		for other, g := range ports {
			w := g.Vec
			w.At = other
			if isChoice(own, g) && rowOfVec(w).cmp(rowOfVec(v)) < 0 {
				isBest = false
			}
		}
		if isBest {
			return v
		}
	}
	return best.Vec{Root: own, From: own.Id, At: -1}
}

// plainRole is what a port is to do, by the chapter's words.
func plainRole(own ptp.Prior, chosen best.Vec, at int, h best.Heard) int {
	if !h.Up {
		return best.Off
	}
	if at == chosen.At {
		return best.Slave
	}
	said := rowOfVec(h.Vec)
	said[7] = num(0)
	tells := append(rowOf(chosen.Root), new(big.Int).Add(num(chosen.Steps), num(1)), num(own.Id), num(at), num(0))
	if chosen.At != -1 && h.Ok && said.cmp(tells) < 0 {
		return best.Passive
	}
	return best.Master
}

// P19.1: Cmp and First, held against plain definitions.
func TestLongRunsCmp(t *testing.T) {
	c := chance(1)
	var same [2]int
	for range 100000 {
		a, b := c.prior(), c.prior()
		want := rowOf(a).cmp(rowOf(b))
		holdCmp(t, a, b, want)
		v, w := c.vec(), c.vec()
		if c.below(2) == 0 {
			w.Root = v.Root
		}
		holdVecCmp(t, v, w, rowOfVec(v).cmp(rowOfVec(w)))
		if want == 0 {
			same[0]++
		}
		if v == w {
			same[1]++
		}
	}
	if same[0] < 500 || same[1] < 50 {
		t.Errorf("too few were the same: %v", same)
	}
	for range 20000 {
		list := make([]ptp.Prior, c.below(12))
		for at := range list {
			list[at] = c.prior()
		}
		want := -1
		for at := len(list) - 1; at >= 0; at-- {
			isBest := true
			for _, p := range list {
				isBest = isBest && rowOf(p).cmp(rowOf(list[at])) >= 0
			}
			if isBest {
				want = at
			}
		}
		holdFirst(t, list, want)
	}
}

// P19.2: Choose, held against the chapter's words in numbers of any length.
func TestLongRunsChoose(t *testing.T) {
	c := chance(2)
	var roles [4]int
	var chosen [2]int
	for range 60000 {
		own := c.prior()
		few := []ptp.Prior{c.prior(), c.prior(), own}
		ports := make([]best.Heard, c.below(9))
		for at := range ports {
			v := c.vec()
			// Mostly one of few clocks, so that Steps and what is behind them tell.
			if c.below(4) > 0 {
				v.Root = few[c.below(3)]
			}
			if c.below(8) == 0 {
				v.From = own.Id
			}
			ports[at] = best.Heard{Up: c.below(8) > 0, Ok: c.below(8) > 0, Vec: v}
		}
		want := plainChoice(own, ports)
		list := make([]int, len(ports))
		for at, h := range ports {
			list[at] = plainRole(own, want, at, h)
			roles[list[at]]++
		}
		chosen[min(want.At+1, 1)]++
		holdChoose(t, own, ports, want, list...)
		if t.Failed() {
			return
		}
	}
	for _, x := range append(roles[:], chosen[:]...) {
		if x < 2000 {
			t.Errorf("of something there is too little: %v, %v", roles, chosen)
		}
	}
}
