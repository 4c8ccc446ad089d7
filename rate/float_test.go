package rate_test

import (
	"math"
	"math/big"
	"testing"

	"sandglass/api"
	"sandglass/rate"
)

const signBit = 1 << 63

// noNumbers are floats that are no number, of each sign, with the first and the last of their bits.
func noNumbers() []float64 {
	list := []float64{math.NaN(), -math.NaN()}
	for _, b := range []uint64{0x7ff0000000000001, 0x7ff7ffffffffffff, 0x7ff8000000000000, 0x7fffffffffffffff} {
		list = append(list, math.Float64frombits(b), math.Float64frombits(b|signBit))
	}
	return list
}

// of is what Of must be, of a float that is 5000 at most, on either side.
func of(ppm float64) rate.Rate {
	x := new(big.Rat).SetFloat64(ppm)
	x.Mul(x, big.NewRat(1<<41, 1000000))
	return rate.One + rate.Rate(nearest(x.Num(), x.Denom()).Int64())
}

func checkOf(t *testing.T, ppm float64) {
	t.Helper()
	for _, x := range []float64{ppm, -ppm} {
		if got, err := rate.Of(x); got != of(x) || err != api.OK {
			t.Errorf("Of(%v) is %d, %d, not %d", x, int(got), err, int(of(x)))
		}
	}
}

// P2.1: Of, of floats of all lengths.
func TestOf(t *testing.T) {
	for _, x := range []float64{0, 1, 0.5, 2.25, 100, 1e-3, 1e-6, 1e-7, 1.0 / 3, 4999.9999999, 5000, math.Nextafter(5000, 0), math.SmallestNonzeroFloat64, 0x1p-1022, math.Nextafter(0x1p-1022, 0)} {
		checkOf(t, x)
	}
	for power := -1074; power <= 12; power++ {
		for _, x := range []float64{1, 1.1, 1.25, 5.0 / 3, math.Nextafter(2, 1)} {
			if y := math.Ldexp(x, power); y <= 5000 {
				checkOf(t, y)
			}
		}
	}
	x := uint64(1)
	for range 20000 {
		x = x*6364136223846793005 + 1442695040888963407
		checkOf(t, float64(x>>11)/(1<<53)*5000)
	}
}

// P2.1: halves, and the floats beside them: n and a half parts of One are just (2n + 1) * 15625 / 2^36 millionths.
func TestOfHalves(t *testing.T) {
	for _, n := range []float64{0, 1, 2, 3, 4, 5, 999, 1000, 1<<33 - 1, 1 << 33, 10995116276, 10995116277} {
		half := (2*n + 1) * 15625 / (1 << 36)
		checkOf(t, half)
		checkOf(t, math.Nextafter(half, 0))
		checkOf(t, math.Nextafter(half, 1e9))
	}
}

// P2.1: to the letter, what the edges of Of are.
func TestOfEdges(t *testing.T) {
	over, half := math.Nextafter(5000, 6000), 15625.0/(1<<36)
	for _, x := range []struct {
		ppm  float64
		want rate.Rate
		err  api.Errno
	}{
		{1, rate.One + 2199023, api.OK},
		{-1, rate.One - 2199023, api.OK},
		{0, rate.One, api.OK},
		{math.Copysign(0, -1), rate.One, api.OK},
		{math.SmallestNonzeroFloat64, rate.One, api.OK},
		{half, rate.One, api.OK},
		{-half, rate.One, api.OK},
		{math.Nextafter(half, 1), rate.One + 1, api.OK},
		{math.Nextafter(-half, -1), rate.One - 1, api.OK},
		{3 * half, rate.One + 2, api.OK},
		{-3 * half, rate.One - 2, api.OK},
		{5 * half, rate.One + 2, api.OK},
		{-5 * half, rate.One - 2, api.OK},
		{5000, rate.One + 10995116278, api.OK},
		{-5000, rate.One - 10995116278, api.OK},
		{over, 0, api.ErrRate},
		{-over, 0, api.ErrRate},
		{7812.5, 0, api.ErrRate},
		{math.MaxFloat64, 0, api.ErrRate},
		{-math.MaxFloat64, 0, api.ErrRate},
		{math.Inf(1), 0, api.ErrInf},
		{math.Inf(-1), 0, api.ErrInf},
	} {
		if got, err := rate.Of(x.ppm); got != x.want || err != x.err {
			t.Errorf("Of(%v) is %d, %d, not %d, %d", x.ppm, int(got), err, int(x.want), x.err)
		}
	}
	for _, x := range noNumbers() {
		if got, err := rate.Of(x); got != 0 || err != api.ErrNaN {
			t.Errorf("Of(%x) is %d, %d", math.Float64bits(x), int(got), err)
		}
	}
}

// P2.1: what Ppm tells of a rate, Of makes that rate of.
func TestOfPpm(t *testing.T) {
	for d := rate.Rate(0); d <= 10995116277; d = d*2 + 1 + d/7 {
		for _, r := range []rate.Rate{rate.One + d, rate.One - d} {
			if got, err := rate.Of(r.Ppm()); got != r || err != api.OK {
				t.Errorf("Of(%v) is %d, %d, not %d", r.Ppm(), int(got), err, int(r))
			}
		}
	}
}

func isLess(x, y float64) bool {
	return x < y || x == y && math.Signbit(x) && !math.Signbit(y)
}

// ends is what Ends must be.
func ends(list []float64) (float64, float64, int) {
	var numbers []float64
	for _, x := range list {
		if !math.IsNaN(x) {
			numbers = append(numbers, x)
		}
	}
	if len(numbers) == 0 {
		return 0, 0, 0
	}
	lo, hi := numbers[0], numbers[0]
	for _, x := range numbers {
		if isLess(x, lo) {
			lo = x
		}
		if isLess(hi, x) {
			hi = x
		}
	}
	return lo, hi, len(numbers)
}

func isSame(x, y float64) bool { return math.Float64bits(x) == math.Float64bits(y) }

func checkEnds(t *testing.T, list []float64) {
	t.Helper()
	lo, hi, n := rate.Ends(list)
	if low, high, many := ends(list); !isSame(lo, low) || !isSame(hi, high) || n != many {
		t.Errorf("Ends(%v) is %v, %v, %d, not %v, %v, %d", list, lo, hi, n, low, high, many)
	}
}

// P2.3: every list of up to four of these.
func TestEnds(t *testing.T) {
	nought, tiny := math.Copysign(0, -1), math.SmallestNonzeroFloat64
	some := []float64{0, nought, 1, -1, 2.5, -2.5, tiny, -tiny, math.Inf(1), math.Inf(-1), math.NaN(), -math.NaN(), math.MaxFloat64, -math.MaxFloat64}
	checkEnds(t, nil)
	checkEnds(t, []float64{})
	for _, a := range some {
		checkEnds(t, []float64{a})
		for _, b := range some {
			checkEnds(t, []float64{a, b})
			for _, c := range some {
				checkEnds(t, []float64{a, b, c})
				for _, d := range some {
					checkEnds(t, []float64{a, b, c, d})
				}
			}
		}
	}
}

// P2.3: nothing but what is no number is as nothing at all.
func TestEndsOfNoNumbers(t *testing.T) {
	for _, list := range [][]float64{nil, {}, noNumbers()[:1], noNumbers()} {
		if lo, hi, n := rate.Ends(list); !isSame(lo, 0) || !isSame(hi, 0) || n != 0 {
			t.Errorf("Ends(%v) is %v, %v, %d", list, lo, hi, n)
		}
	}
	for _, x := range []float64{3, math.Copysign(0, -1), math.Inf(1), math.Inf(-1)} {
		list := append(noNumbers(), x)
		list = append(list, noNumbers()...)
		if lo, hi, n := rate.Ends(list); !isSame(lo, x) || !isSame(hi, x) || n != 1 {
			t.Errorf("Ends(%v) is %v, %v, %d", list, lo, hi, n)
		}
	}
}

// P2.3: a long list, and what is handed in stays as it is, the room behind it, too.
func TestEndsKeepsTheList(t *testing.T) {
	var list []float64
	for i := range 1000 {
		list = append(list, float64((i*7919)%1000)-300)
		if i%3 == 0 {
			list = append(list, math.NaN())
		}
	}
	list = append(list, -1e9, 1e9, math.Inf(1))
	before := append([]float64(nil), list...)
	if lo, hi, n := rate.Ends(list[:len(list)-3]); lo != -300 || hi != 699 || n != 1000 {
		t.Errorf("Ends is %v, %v, %d", lo, hi, n)
	}
	for i := range list {
		if !isSame(list[i], before[i]) {
			t.Fatalf("the list has %v at %d, not %v", list[i], i, before[i])
		}
	}
}
