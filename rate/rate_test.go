package rate_test

import (
	"math"
	"math/big"
	"testing"

	"sandglass/api"
	"sandglass/rate"
)

const (
	most  = math.MaxInt
	least = math.MinInt
)

// nearest is a by b, to the nearest whole number, of two as near to the even one; b isn't 0.
func nearest(a, b *big.Int) *big.Int {
	x := new(big.Rat).SetFrac(a, b) // what it is parted by is above 0
	down, left := new(big.Int).DivMod(x.Num(), x.Denom(), new(big.Int))
	half := left.Lsh(left, 1).Cmp(x.Denom())
	if half > 0 || half == 0 && down.Bit(0) == 1 {
		down.Add(down, big.NewInt(1))
	}
	return down
}

// mulDiv is what a times b by c must be.
func mulDiv(a, b, c int) (rate.Rate, api.Errno) {
	if c == 0 {
		return 0, api.ErrZero
	}
	x := nearest(new(big.Int).Mul(big.NewInt(int64(a)), big.NewInt(int64(b))), big.NewInt(int64(c)))
	if !x.IsInt64() {
		return 0, api.ErrOver
	}
	return rate.Rate(x.Int64()), api.OK
}

// rates are right ones, wrong ones and the ends.
func rates() []rate.Rate {
	list := []rate.Rate{least, least + 1, most - 1, most, 0}
	for _, r := range []rate.Rate{rate.One, rate.One - rate.Most, rate.One + rate.Most, rate.Most, 1, 2, 3, rate.One / 2, 1 << 18, 1 << 19, 1 << 20, 1 << 52, 1 << 62, 2 * rate.One} {
		for d := rate.Rate(-2); d <= 2; d++ {
			list = append(list, r+d, -r-d)
		}
	}
	return list
}

func isRight(r rate.Rate) bool { return r >= rate.One-rate.Most && r <= rate.One+rate.Most }

func TestConstants(t *testing.T) {
	if rate.One != 2199023255552 || rate.Most != 17179869184 {
		t.Error("One is", int(rate.One), "and Most is", int(rate.Most))
	}
}

// P2.1: what is a right rate.
func TestCheck(t *testing.T) {
	for _, x := range []struct {
		r   rate.Rate
		err api.Errno
	}{
		{rate.One, api.OK}, {rate.One - rate.Most, api.OK}, {rate.One + rate.Most, api.OK},
		{rate.One - rate.Most + 1, api.OK}, {rate.One + rate.Most - 1, api.OK},
		{rate.One - rate.Most - 1, api.ErrRate}, {rate.One + rate.Most + 1, api.ErrRate},
		{0, api.ErrRate}, {1, api.ErrRate}, {-1, api.ErrRate}, {-rate.One, api.ErrRate}, {least, api.ErrRate}, {most, api.ErrRate},
	} {
		if err := x.r.Check(); err != x.err {
			t.Errorf("Check of %d is %d", int(x.r), err)
		}
	}
	for _, r := range rates() {
		if err := r.Check(); (err == api.OK) != isRight(r) || err != api.OK && err != api.ErrRate {
			t.Errorf("Check of %d is %d", int(r), err)
		}
	}
}

// P2.1: Ppm to the last bit, and what of a rate that isn't right.
func TestPpm(t *testing.T) {
	list := rates()
	for d := rate.Rate(1); d <= rate.Most; d = d*3 + 1 {
		list = append(list, rate.One+d, rate.One-d)
	}
	for _, r := range list {
		got := r.Ppm()
		if !isRight(r) {
			if !math.IsNaN(got) {
				t.Errorf("Ppm of %d is %v", int(r), got)
			}
			continue
		}
		want := big.NewRat(int64(r-rate.One)*1000000, 1<<41)
		if x := new(big.Rat).SetFloat64(got); x == nil || x.Cmp(want) != 0 {
			t.Errorf("Ppm of %d is %v, not %v", int(r), got, want)
		}
	}
	if got := rate.One.Ppm(); math.Float64bits(got) != 0 {
		t.Errorf("Ppm of One is %v", got)
	}
	if up, down := (rate.One + rate.Most).Ppm(), (rate.One - rate.Most).Ppm(); up != 7812.5 || down != -7812.5 {
		t.Errorf("Ppm of the ends is %v and %v", up, down)
	}
}

// P2.2: Mul and Inv, of rates that are not right, too.
func TestMulInv(t *testing.T) {
	for _, r := range rates() {
		got, err := r.Inv()
		if want, e := mulDiv(int(rate.One), int(rate.One), int(r)); got != want || err != e {
			t.Errorf("Inv of %d is %d, %d, not %d, %d", int(r), int(got), err, int(want), e)
		}
		for _, s := range rates() {
			got, err := r.Mul(s)
			if want, e := mulDiv(int(r), int(s), int(rate.One)); got != want || err != e {
				t.Errorf("%d.Mul(%d) is %d, %d, not %d, %d", int(r), int(s), int(got), err, int(want), e)
			}
		}
	}
}

// P2.2: to the letter, what the edges of Mul are.
func TestMulEdges(t *testing.T) {
	for _, x := range []struct {
		r, s, want rate.Rate
		err        api.Errno
	}{
		{rate.One, rate.One, rate.One, api.OK},
		{most, rate.One, most, api.OK},
		{least, rate.One, least, api.OK},
		{1, rate.One / 2, 0, api.OK},
		{3, rate.One / 2, 2, api.OK},
		{-1, rate.One / 2, 0, api.OK},
		{-3, rate.One / 2, -2, api.OK},
		{least, -rate.One, 0, api.ErrOver},
		{most, rate.One + 1, 0, api.ErrOver},
		{most, most, 0, api.ErrOver},
	} {
		if got, err := x.r.Mul(x.s); got != x.want || err != x.err {
			t.Errorf("%d.Mul(%d) is %d, %d", int(x.r), int(x.s), int(got), err)
		}
	}
}

// P2.2: to the letter, what the edges of Inv are.
func TestInvEdges(t *testing.T) {
	for _, x := range []struct {
		r, want rate.Rate
		err     api.Errno
	}{
		{rate.One, rate.One, api.OK},
		{-rate.One, -rate.One, api.OK},
		{rate.One + 1000, rate.One - 1000, api.OK},
		{1 << 20, 1 << 62, api.OK},
		{-1 << 19, least, api.OK},
		{1 << 19, 0, api.ErrOver},
		{1, 0, api.ErrOver},
		{-1, 0, api.ErrOver},
		{0, 0, api.ErrZero},
	} {
		if got, err := x.r.Inv(); got != x.want || err != x.err {
			t.Errorf("Inv of %d is %d, %d", int(x.r), int(got), err)
		}
	}
}

// between is what Between must be.
func between(ahead, by int) (rate.Rate, api.Errno) {
	if ahead < 0 || by < 0 {
		return 0, api.ErrArg
	}
	r, err := mulDiv(ahead, int(rate.One), by)
	switch {
	case err != api.OK:
		return 0, err
	case !isRight(r):
		return 0, api.ErrRate
	}
	return r, api.OK
}

// P2.2: Between, of all pairs.
func TestBetween(t *testing.T) {
	for _, r := range rates() {
		for _, s := range rates() {
			got, err := rate.Between(int(r), int(s))
			if want, e := between(int(r), int(s)); got != want || err != e {
				t.Errorf("Between(%d, %d) is %d, %d, not %d, %d", int(r), int(s), int(got), err, int(want), e)
			}
		}
	}
}

// P2.2: to the letter, what the edges of Between are.
func TestBetweenEdges(t *testing.T) {
	const low, high, two = int(rate.One - rate.Most), int(rate.One + rate.Most), 1 << 42
	for _, x := range []struct {
		ahead, by int
		want      rate.Rate
		err       api.Errno
	}{
		{3, 3, rate.One, api.OK},
		{1000001, 1000000, rate.One + 2199023, api.OK},
		{most, most, rate.One, api.OK},
		{low, 1 << 41, rate.One - rate.Most, api.OK},
		{high, 1 << 41, rate.One + rate.Most, api.OK},
		{low - 1, 1 << 41, 0, api.ErrRate},
		{high + 1, 1 << 41, 0, api.ErrRate},
		{two + 1, two, rate.One, api.OK},
		{two + 3, two, rate.One + 2, api.OK},
		{two - 1, two, rate.One, api.OK},
		{two - 3, two, rate.One - 2, api.OK},
		{2*high + 1, two, rate.One + rate.Most, api.OK},
		{2*low - 1, two, rate.One - rate.Most, api.OK},
		{2*high + 2, two, 0, api.ErrRate},
		{2*low - 2, two, 0, api.ErrRate},
		{0, 5, 0, api.ErrRate},
		{2, 1, 0, api.ErrRate},
		{1, 2, 0, api.ErrRate},
		{5, 0, 0, api.ErrZero},
		{0, 0, 0, api.ErrZero},
		{most, 1, 0, api.ErrOver},
		{1 << 22, 1, 0, api.ErrOver},
		{1<<22 - 1, 1, 0, api.ErrRate},
		{-1, 1, 0, api.ErrArg},
		{1, -1, 0, api.ErrArg},
		{-3, -3, 0, api.ErrArg},
		{-1, 0, 0, api.ErrArg},
		{least, least, 0, api.ErrArg},
		{most, -1, 0, api.ErrArg},
	} {
		if got, err := rate.Between(x.ahead, x.by); got != x.want || err != x.err {
			t.Errorf("Between(%d, %d) is %d, %d, not %d, %d", x.ahead, x.by, int(got), err, int(x.want), x.err)
		}
	}
}
