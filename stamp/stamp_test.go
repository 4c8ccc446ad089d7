package stamp_test

import (
	"math"
	"math/big"
	"slices"
	"testing"

	"sandglass/api"
	"sandglass/rate"
	"sandglass/stamp"
)

const (
	most  = math.MaxInt
	least = math.MinInt
	unit  = 65536
)

// times are nought, the ends, whole nanoseconds and what is next to these, above nought and below it.
func times() []stamp.Stamp {
	list := []stamp.Stamp{0, least, least + 1, least + 2, most - 1, most}
	for _, s := range []stamp.Stamp{1, 2, 3, 5, unit / 2, unit, 2 * unit, 3 * unit, 20 * unit, 1000 * unit, 1 << 36, 3 << 35, 1 << 40, 1 << 41, 1 << 56, 1 << 62, 3 << 61, most - unit, most - 1<<36} {
		for d := stamp.Stamp(-2); d <= 2; d++ {
			list = append(list, s+d, -s-d)
		}
	}
	return list
}

// whole are whole numbers about which a count of nanoseconds ceases to fit, and others.
func whole() []int {
	list := []int{0, most, least, most - 1, least + 1}
	for _, n := range []int{1, 2, 3, 7, 1000, 1 << 20, 1 << 31, 1 << 32, 1 << 40, 1 << 46, 1 << 47, 1 << 48, 1 << 49, 1 << 62} {
		for d := -2; d <= 2; d++ {
			list = append(list, n+d, -n-d)
		}
	}
	return list
}

func num(s stamp.Stamp) *big.Int { return big.NewInt(int64(s)) }

// fits is a number as a stamp, or that it is none.
func fits(x *big.Int) (stamp.Stamp, api.Errno) {
	if !x.IsInt64() {
		return 0, api.ErrOver
	}
	return stamp.Stamp(x.Int64()), api.OK
}

// below is the greatest whole number of times by that isn't above x; by is above 0.
func below(x, by *big.Int) *big.Int {
	return new(big.Int).Div(x, by)
}

// near is x by 2^41, to the nearer whole number, of two as near to the even one.
func near(x *big.Int) *big.Int {
	one := big.NewInt(1 << 41)
	down, left := new(big.Int).DivMod(x, one, new(big.Int))
	half := left.Cmp(big.NewInt(1 << 40))
	if half > 0 || half == 0 && down.Bit(0) == 1 {
		down.Add(down, big.NewInt(1))
	}
	return down
}

func TestUnit(t *testing.T) {
	if stamp.Unit != unit {
		t.Error("Unit is", int(stamp.Unit))
	}
}

// P3.1: Ns, where it fits and where it doesn't.
func TestNs(t *testing.T) {
	for _, n := range whole() {
		got, err := stamp.Ns(n)
		if want, e := fits(new(big.Int).Mul(big.NewInt(int64(n)), big.NewInt(unit))); got != want || err != e {
			t.Errorf("Ns(%d) is %d, %d, not %d, %d", n, int(got), err, int(want), e)
		}
	}
}

// P3.1: to the letter, the ends of Ns.
func TestNsEdges(t *testing.T) {
	for _, x := range []struct {
		n    int
		want stamp.Stamp
		err  api.Errno
	}{
		{0, 0, api.OK}, {1, unit, api.OK}, {-1, -unit, api.OK}, {3, 196608, api.OK},
		{1<<47 - 1, most - unit + 1, api.OK}, {1 << 47, 0, api.ErrOver},
		{-1 << 47, least, api.OK}, {-1<<47 - 1, 0, api.ErrOver},
		{1 << 48, 0, api.ErrOver}, {1 << 60, 0, api.ErrOver}, {-1 << 48, 0, api.ErrOver},
		{most, 0, api.ErrOver}, {least, 0, api.ErrOver},
	} {
		if got, err := stamp.Ns(x.n); got != x.want || err != x.err {
			t.Errorf("Ns(%d) is %d, %d, not %d, %d", x.n, int(got), err, int(x.want), x.err)
		}
	}
}

// P3.1: Floor, below nought too.
func TestFloor(t *testing.T) {
	for _, s := range times() {
		want := below(num(s), big.NewInt(unit))
		if got := s.Floor(); big.NewInt(int64(got)).Cmp(want) != 0 {
			t.Errorf("Floor of %d is %d, not %v", int(s), got, want)
		}
	}
	for _, x := range []struct {
		s    stamp.Stamp
		want int
	}{
		{0, 0}, {1, 0}, {unit - 1, 0}, {unit, 1}, {unit + 1, 1},
		{-1, -1}, {-unit + 1, -1}, {-unit, -1}, {-unit - 1, -2},
		{most, 1<<47 - 1}, {least, -1 << 47}, {least + unit - 1, -1 << 47}, {least + unit, -1<<47 + 1},
	} {
		if got := x.s.Floor(); got != x.want {
			t.Errorf("Floor of %d is %d, not %d", int(x.s), got, x.want)
		}
	}
}

// P3.1: Add and Sub of any two times.
func TestAddSub(t *testing.T) {
	for _, s := range times() {
		for _, d := range times() {
			got, err := s.Add(d)
			if want, e := fits(new(big.Int).Add(num(s), num(d))); got != want || err != e {
				t.Errorf("%d.Add(%d) is %d, %d, not %d, %d", int(s), int(d), int(got), err, int(want), e)
			}
			got, err = s.Sub(d)
			if want, e := fits(new(big.Int).Sub(num(s), num(d))); got != want || err != e {
				t.Errorf("%d.Sub(%d) is %d, %d, not %d, %d", int(s), int(d), int(got), err, int(want), e)
			}
		}
	}
}

// P3.1: to the letter, where Add and Sub cease to fit.
func TestAddSubEdges(t *testing.T) {
	for _, x := range []struct {
		s, t     stamp.Stamp
		sum      stamp.Stamp
		sumErr   api.Errno
		apart    stamp.Stamp
		apartErr api.Errno
	}{
		{5, 3, 8, api.OK, 2, api.OK},
		{3, 5, 8, api.OK, -2, api.OK},
		{-3, 5, 2, api.OK, -8, api.OK},
		{most, 0, most, api.OK, most, api.OK},
		{least, 0, least, api.OK, least, api.OK},
		{0, least, least, api.OK, 0, api.ErrOver},
		{-1, least, 0, api.ErrOver, most, api.OK},
		{most, 1, 0, api.ErrOver, most - 1, api.OK},
		{most, -1, most - 1, api.OK, 0, api.ErrOver},
		{least, 1, least + 1, api.OK, 0, api.ErrOver},
		{least, -1, 0, api.ErrOver, least + 1, api.OK},
		{least, least, 0, api.ErrOver, 0, api.OK},
		{most, most, 0, api.ErrOver, 0, api.OK},
		{most, least, -1, api.OK, 0, api.ErrOver},
		{least, most, -1, api.OK, 0, api.ErrOver},
		{-2, most, most - 2, api.OK, 0, api.ErrOver},
		{-1, most, most - 1, api.OK, least, api.OK},
	} {
		if got, err := x.s.Add(x.t); got != x.sum || err != x.sumErr {
			t.Errorf("%d.Add(%d) is %d, %d, not %d, %d", int(x.s), int(x.t), int(got), err, int(x.sum), x.sumErr)
		}
		if got, err := x.s.Sub(x.t); got != x.apart || err != x.apartErr {
			t.Errorf("%d.Sub(%d) is %d, %d, not %d, %d", int(x.s), int(x.t), int(got), err, int(x.apart), x.apartErr)
		}
	}
}

// P3.2: By, with rates that are right, and with any others.
func TestBy(t *testing.T) {
	rates := []rate.Rate{0, most, least, rate.One, -rate.One, rate.One + 1, rate.One - 1, rate.One - rate.Most, rate.One + rate.Most, rate.One - rate.Most - 1, rate.One + rate.Most + 1, rate.One + 2199023, rate.One / 2, rate.One / 4, 3 * rate.One / 4, 2 * rate.One, 1, -1, 3, 1 << 62}
	for _, s := range times() {
		for _, r := range rates {
			got, err := s.By(r)
			if want, e := fits(near(new(big.Int).Mul(num(s), big.NewInt(int64(r))))); got != want || err != e {
				t.Errorf("%d.By(%d) is %d, %d, not %d, %d", int(s), int(r), int(got), err, int(want), e)
			}
		}
	}
}

// P3.2: to the letter, By: halves go to the even one, above nought and below it; what doesn't fit.
func TestByEdges(t *testing.T) {
	for _, x := range []struct {
		s    stamp.Stamp
		r    rate.Rate
		want stamp.Stamp
		err  api.Errno
	}{
		{0, rate.One, 0, api.OK}, {most, rate.One, most, api.OK}, {least, rate.One, least, api.OK},
		{1000000 * unit, rate.One + 2199023, 1000001 * unit, api.OK},
		{1, rate.One / 2, 0, api.OK}, {3, rate.One / 2, 2, api.OK}, {5, rate.One / 2, 2, api.OK}, {7, rate.One / 2, 4, api.OK},
		{-1, rate.One / 2, 0, api.OK}, {-3, rate.One / 2, -2, api.OK}, {-5, rate.One / 2, -2, api.OK}, {-7, rate.One / 2, -4, api.OK},
		{1, rate.One/2 + 1, 1, api.OK}, {1, rate.One/2 - 1, 0, api.OK}, {-1, rate.One/2 + 1, -1, api.OK}, {-1, rate.One/2 - 1, 0, api.OK},
		{64, rate.One + rate.Most, 64, api.OK}, {192, rate.One + rate.Most, 194, api.OK}, {192, rate.One - rate.Most, 190, api.OK}, {65, rate.One + rate.Most, 66, api.OK},
		{-64, rate.One + rate.Most, -64, api.OK}, {-192, rate.One + rate.Most, -194, api.OK},
		{most, rate.One + 1, 0, api.ErrOver}, {least, rate.One + 1, 0, api.ErrOver}, {least, -rate.One, 0, api.ErrOver},
		{most, -rate.One, -most, api.OK}, {1, most, 1 << 22, api.OK},
	} {
		if got, err := x.s.By(x.r); got != x.want || err != x.err {
			t.Errorf("%d.By(%d) is %d, %d, not %d, %d", int(x.s), int(x.r), int(got), err, int(x.want), x.err)
		}
	}
}

// P3.2: Grain of any time, with all grains that are right.
func TestGrain(t *testing.T) {
	for _, s := range times() {
		for _, ns := range []int{1, 2, 3, 7, 8, 10, 40, 1000, 4096, 65535, 65536, 999999, 1<<20 - 1, 1 << 20} {
			grain := big.NewInt(int64(ns) * unit)
			want, e := fits(new(big.Int).Mul(below(num(s), grain), grain))
			if got, err := s.Grain(ns); got != want || err != e {
				t.Errorf("%d.Grain(%d) is %d, %d, not %d, %d", int(s), ns, int(got), err, int(want), e)
			}
		}
	}
}

// P3.2: to the letter, Grain; wrong grains go ahead of what doesn't fit.
func TestGrainEdges(t *testing.T) {
	for _, x := range []struct {
		s    stamp.Stamp
		ns   int
		want stamp.Stamp
		err  api.Errno
	}{
		{20 * unit, 8, 16 * unit, api.OK}, {-20 * unit, 8, -24 * unit, api.OK},
		{24 * unit, 8, 24 * unit, api.OK}, {24*unit - 1, 8, 16 * unit, api.OK}, {24*unit + 1, 8, 24 * unit, api.OK},
		{-24 * unit, 8, -24 * unit, api.OK}, {-24*unit - 1, 8, -32 * unit, api.OK}, {-24*unit + 1, 8, -24 * unit, api.OK},
		{0, 1, 0, api.OK}, {1, 1, 0, api.OK}, {-1, 1, -unit, api.OK}, {unit, 1, unit, api.OK}, {2*unit - 1, 1, unit, api.OK},
		{0, 1 << 20, 0, api.OK}, {1 << 36, 1 << 20, 1 << 36, api.OK}, {1<<36 - 1, 1 << 20, 0, api.OK}, {-1, 1 << 20, -1 << 36, api.OK},
		{most, 1, most - unit + 1, api.OK}, {most, 1 << 20, most - 1<<36 + 1, api.OK},
		{least, 1, least, api.OK}, {least, 1 << 20, least, api.OK}, {least, 3, 0, api.ErrOver}, {least + 1, 1, least, api.OK}, {least + unit, 3, 0, api.ErrOver},
		{least + 2*unit - 1, 3, 0, api.ErrOver}, {least + 2*unit, 3, least + 2*unit, api.OK},
		{0, 0, 0, api.ErrArg}, {0, -1, 0, api.ErrArg}, {0, 1<<20 + 1, 0, api.ErrArg}, {20 * unit, most, 0, api.ErrArg}, {20 * unit, least, 0, api.ErrArg},
		{20 * unit, 1 << 48, 0, api.ErrArg}, {least, -3, 0, api.ErrArg}, {least, 3 << 20, 0, api.ErrArg},
	} {
		if got, err := x.s.Grain(x.ns); got != x.want || err != x.err {
			t.Errorf("%d.Grain(%d) is %d, %d, not %d, %d", int(x.s), x.ns, int(got), err, int(x.want), x.err)
		}
	}
}

// middle is the time that has at most so many others below it, and none above that comes sooner.
func middle(list []stamp.Stamp) stamp.Stamp {
	place := (len(list) - 1) / 2
	for _, s := range list {
		less, same := 0, 0
		for _, x := range list {
			if x < s {
				less++
			} else if x == s {
				same++
			}
		}
		if less <= place && place < less+same {
			return s
		}
	}
	return 0
}

// P3.3: Middle of none, and of lists in all orders.
func TestMiddle(t *testing.T) {
	for _, list := range [][]stamp.Stamp{nil, {}} {
		if got, err := stamp.Middle(list); got != 0 || err != api.ErrNone {
			t.Errorf("Middle of none is %d, %d", int(got), err)
		}
	}
	for _, x := range []struct {
		list []stamp.Stamp
		want stamp.Stamp
	}{
		{[]stamp.Stamp{7}, 7}, {[]stamp.Stamp{-7}, -7}, {[]stamp.Stamp{0}, 0},
		{[]stamp.Stamp{2, 1}, 1}, {[]stamp.Stamp{1, 2}, 1}, {[]stamp.Stamp{5, 5}, 5},
		{[]stamp.Stamp{3, 1, 2}, 2}, {[]stamp.Stamp{9, 9, 1}, 9}, {[]stamp.Stamp{1, 9, 1}, 1},
		{[]stamp.Stamp{5, 1, 9, 7}, 5}, {[]stamp.Stamp{5, 7, 5, 7}, 5}, {[]stamp.Stamp{4, 4, 4, 4}, 4}, {[]stamp.Stamp{7, 5, 7, 7}, 7},
		{[]stamp.Stamp{most, least}, least}, {[]stamp.Stamp{most, least, -1}, -1}, {[]stamp.Stamp{most, most, least}, most},
		{[]stamp.Stamp{-5, 3, -9, 0, -1}, -1}, {[]stamp.Stamp{6, 5, 4, 3, 2, 1}, 3},
	} {
		if got, err := stamp.Middle(x.list); got != x.want || err != api.OK {
			t.Errorf("Middle of %v is %d, %d, not %d", x.list, int(got), err, int(x.want))
		}
	}
}

// P3.3: Middle of many lists; none is changed, nor the room behind it.
func TestMiddleLists(t *testing.T) {
	x := uint64(1)
	for n := 1; n < 90; n++ {
		for _, span := range []int{3, 100, 0} {
			room := make([]stamp.Stamp, n+8)
			for i := range room {
				x = x*6364136223846793005 + 1442695040888963407
				room[i] = stamp.Stamp(x)
				if span > 0 {
					room[i] = stamp.Stamp(int(x>>33)%span - span/2)
				}
			}
			was := slices.Clone(room)
			if got, err := stamp.Middle(room[:n]); got != middle(room[:n]) || err != api.OK {
				t.Errorf("Middle of %v is %d, %d, not %d", room[:n], int(got), err, int(middle(room[:n])))
			}
			if !slices.Equal(room, was) {
				t.Errorf("Middle changed %v to %v", was, room)
			}
		}
	}
}

// P3.3: Clamp, the ends the wrong way round too.
func TestClamp(t *testing.T) {
	for _, x := range []struct{ s, lo, hi, want stamp.Stamp }{
		{5, 7, 9, 7}, {50, 7, 9, 9}, {8, 7, 9, 8}, {7, 7, 9, 7}, {9, 7, 9, 9}, {6, 7, 9, 7}, {10, 7, 9, 9},
		{5, 6, 6, 6}, {6, 6, 6, 6}, {7, 6, 6, 6},
		{5, 9, 7, 9}, {8, 9, 7, 9}, {50, 9, 7, 9}, {7, 9, 7, 9}, {9, 9, 7, 9}, // the wrong way round: lo
		{-5, -9, -7, -7}, {-50, -9, -7, -9}, {-8, -9, -7, -8}, {0, -9, -7, -7},
		{most, least, most, most}, {least, least, most, least}, {0, most, least, most}, {most, 0, 0, 0}, {least, 0, 0, 0},
	} {
		if got := x.s.Clamp(x.lo, x.hi); got != x.want {
			t.Errorf("%d.Clamp(%d, %d) is %d, not %d", int(x.s), int(x.lo), int(x.hi), int(got), int(x.want))
		}
	}
	for s := stamp.Stamp(-4); s <= 4; s++ {
		for lo := stamp.Stamp(-4); lo <= 4; lo++ {
			for hi := stamp.Stamp(-4); hi <= 4; hi++ {
				want := s
				if s > hi {
					want = hi
				}
				if want < lo {
					want = lo
				}
				if got := s.Clamp(lo, hi); got != want {
					t.Errorf("%d.Clamp(%d, %d) is %d, not %d", int(s), int(lo), int(hi), int(got), int(want))
				}
			}
		}
	}
}
