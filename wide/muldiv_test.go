package wide_test

import (
	"math"
	"math/big"
	"testing"

	"sandglass/api"
	"sandglass/wide"
)

const (
	most  = math.MaxInt
	least = math.MinInt
)

// rounds are the right ones.
func rounds() []int { return []int{wide.Down, wide.Up, wide.Near} }

// wrongRounds are neither Down, Up nor Near.
func wrongRounds() []int { return []int{-1, 3, 4, 256, 1 << 32, most, least} }

// factors are the ints that the tests multiply and part by.
func factors() []int {
	list := []int{0, most, least}
	for _, x := range []int{1, 2, 3, 4, 5, 6, 7, 15625, 1 << 31, 1<<32 + 1, 1 << 41, 1<<62 - 1, 1 << 62, 1<<62 + 1, most - 1} {
		list = append(list, x, -x)
	}
	return append(list, least+1)
}

// rounded is a times b by c, rounded, by numbers of any length; c isn't 0.
func rounded(a, b, c, round int) *big.Int {
	top := new(big.Int).Mul(big.NewInt(int64(a)), big.NewInt(int64(b)))
	by := big.NewInt(int64(c))
	if by.Sign() < 0 {
		top.Neg(top)
		by.Neg(by)
	}
	down, left := new(big.Int).DivMod(top, by, new(big.Int)) // by is above 0: this is the lower one
	up := new(big.Int).Add(down, big.NewInt(1))
	half := left.Lsh(left, 1).Cmp(by)
	switch {
	case left.Sign() == 0, round == wide.Down:
		return down
	case round == wide.Up, half > 0, half == 0 && down.Bit(0) == 1:
		return up
	}
	return down
}

// check holds MulDiv and Held against what they must be; c isn't 0, and round is right.
func check(t *testing.T, a, b, c, round int) {
	t.Helper()
	x := rounded(a, b, c, round)
	want, e, held := 0, api.ErrOver, most
	if x.IsInt64() {
		want, e, held = int(x.Int64()), api.OK, int(x.Int64())
	} else if x.Sign() < 0 {
		held = least
	}
	if got, err := wide.MulDiv(a, b, c, round); got != want || err != e {
		t.Errorf("MulDiv(%d, %d, %d, %d) is %d, %d, not %d, %d", a, b, c, round, got, err, want, e)
	}
	if got := wide.Held(a, b, c, round); got != held {
		t.Errorf("Held(%d, %d, %d, %d) is %d, not %d", a, b, c, round, got, held)
	}
}

// P1.2: all triples of edges.
func TestTriples(t *testing.T) {
	for _, a := range factors() {
		for _, b := range factors() {
			for _, c := range factors() {
				for _, round := range rounds() {
					if c != 0 {
						check(t, a, b, c, round)
					}
				}
			}
		}
	}
}

// P1.2: small numbers, of which many are halves.
func TestSmall(t *testing.T) {
	for a := -40; a <= 40; a++ {
		for c := -9; c <= 9; c++ {
			for _, round := range rounds() {
				if c != 0 {
					check(t, a, 1, c, round)
					check(t, a, 3, c, round)
				}
			}
		}
	}
}

// P1.2: numbers of all lengths, always the same ones.
func TestMany(t *testing.T) {
	x := uint64(1)
	next := func() int {
		x = x*6364136223846793005 + 1442695040888963407
		return int(x) >> (x >> 58) // from all 64 bits to only a sign
	}
	for range 20000 {
		a, b, c := next(), next(), next()
		for _, round := range rounds() {
			if c != 0 {
				check(t, a, b, c, round)
			}
		}
	}
}

// P1.2: to the letter, what the edges are.
func TestEdges(t *testing.T) {
	for _, x := range []struct {
		a, b, c  int
		want     [3]int // by round: Down, Up, Near
		err      [3]api.Errno
		whenHeld [3]int
	}{
		{a: 7, b: 3, c: 2, want: [3]int{10, 11, 10}},
		{a: -7, b: 3, c: 2, want: [3]int{-11, -10, -10}},
		{a: 9, b: 3, c: 2, want: [3]int{13, 14, 14}},
		{a: -9, b: 3, c: 2, want: [3]int{-14, -13, -14}},
		{a: 1, b: 1, c: 2, want: [3]int{0, 1, 0}},
		{a: -1, b: 1, c: 2, want: [3]int{-1, 0, 0}},
		{a: 1, b: 3, c: -2, want: [3]int{-2, -1, -2}},
		{a: -1, b: -3, c: -2, want: [3]int{-2, -1, -2}},
		{a: 0, b: -5, c: 3},
		{a: least, b: 1, c: 1, want: [3]int{least, least, least}},
		{a: least, b: least, c: least, want: [3]int{least, least, least}},
		{a: most, b: most, c: most, want: [3]int{most, most, most}},
		{a: 1, b: 1, c: least, want: [3]int{-1, 0, 0}},
		{a: 1 << 62, b: 1, c: least, want: [3]int{-1, 0, 0}},
		{a: 1 << 62, b: 3, c: least, want: [3]int{-2, -1, -2}},
		// half a one below 2^63
		{a: 6148914691236517205, b: 3, c: 2, want: [3]int{most, 0, 0}, err: [3]api.Errno{api.OK, api.ErrOver, api.ErrOver}, whenHeld: [3]int{most, most, most}},
		{a: 6148914691236517205, b: -3, c: 2, want: [3]int{least, -most, least}},
		// half a one below -2^63
		{a: -67280421310721, b: 274177, c: 2, want: [3]int{0, least, least}, err: [3]api.Errno{api.ErrOver, api.OK, api.OK}, whenHeld: [3]int{least, least, least}},
	} {
		if x.err == [3]api.Errno{} {
			x.whenHeld = x.want
		}
		for _, round := range rounds() {
			if got, err := wide.MulDiv(x.a, x.b, x.c, round); got != x.want[round] || err != x.err[round] {
				t.Errorf("MulDiv(%d, %d, %d, %d) is %d, %d", x.a, x.b, x.c, round, got, err)
			}
			if got := wide.Held(x.a, x.b, x.c, round); got != x.whenHeld[round] {
				t.Errorf("Held(%d, %d, %d, %d) is %d", x.a, x.b, x.c, round, got)
			}
		}
	}
}

// P1.2: what is no int.
func TestOver(t *testing.T) {
	for _, x := range []struct{ a, b, c, held int }{
		{1 << 62, 2, 1, most}, {1 << 62, 4, 1, most}, {least, -1, 1, most}, {least, 1, -1, most}, {least, least, 1, most}, {most, most, 1, most}, {least, least, most, most},
		{1 << 62, -4, 1, least}, {least, 2, 1, least}, {most, least, 1, least}, {most, 2, -1, least}, {least, least, -1, least}, {least, -2, -1, least},
	} {
		for _, round := range rounds() {
			if got, err := wide.MulDiv(x.a, x.b, x.c, round); got != 0 || err != api.ErrOver {
				t.Errorf("MulDiv(%d, %d, %d, %d) is %d, %d", x.a, x.b, x.c, round, got, err)
			}
			if got := wide.Held(x.a, x.b, x.c, round); got != x.held {
				t.Errorf("Held(%d, %d, %d, %d) is %d", x.a, x.b, x.c, round, got)
			}
		}
	}
}

// P1.2: parted by 0.
func TestZero(t *testing.T) {
	for _, a := range factors() {
		for _, b := range factors() {
			for _, round := range rounds() {
				if got, err := wide.MulDiv(a, b, 0, round); got != 0 || err != api.ErrZero {
					t.Errorf("MulDiv(%d, %d, 0, %d) is %d, %d", a, b, round, got, err)
				}
				if got := wide.Held(a, b, 0, round); got != 0 {
					t.Errorf("Held(%d, %d, 0, %d) is %d", a, b, round, got)
				}
			}
		}
	}
}

// P1.2: a wrong way to round is told ahead of everything else.
func TestWrongRound(t *testing.T) {
	for _, round := range wrongRounds() {
		for _, x := range [][3]int{{7, 3, 2}, {4, 1, 2}, {0, 0, 1}, {7, 3, 0}, {most, most, 1}, {least, most, 1}} {
			if got, err := wide.MulDiv(x[0], x[1], x[2], round); got != 0 || err != api.ErrArg {
				t.Errorf("MulDiv(%d, %d, %d, %d) is %d, %d", x[0], x[1], x[2], round, got, err)
			}
			if got := wide.Held(x[0], x[1], x[2], round); got != 0 {
				t.Errorf("Held(%d, %d, %d, %d) is %d", x[0], x[1], x[2], round, got)
			}
		}
	}
}
