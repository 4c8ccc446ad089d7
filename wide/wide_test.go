package wide_test

import (
	"math/big"
	"testing"

	"sandglass/api"
	"sandglass/wide"
)

const all = 1<<64 - 1

// words are the numbers of 64 bits that the tests put together.
func words() []uint64 {
	return []uint64{0, 1, 2, 3, 10, 15625, 1<<32 - 1, 1 << 32, 1<<32 + 1, 1<<63 - 1, 1 << 63, 1<<63 + 1, all - 1, all}
}

// numbers are all numbers of 128 bits whose halves are of words.
func numbers() []wide.U {
	var list []wide.U
	for _, hi := range words() {
		for _, lo := range words() {
			list = append(list, wide.U{Hi: hi, Lo: lo})
		}
	}
	return list
}

func bigWord(x uint64) *big.Int { return new(big.Int).SetUint64(x) }

func bigOf(a wide.U) *big.Int {
	x := bigWord(a.Hi)
	return x.Lsh(x, 64).Add(x, bigWord(a.Lo))
}

// fromBig is the number, and ErrOver where it is below 0, or 2^128 or more.
func fromBig(x *big.Int) (wide.U, api.Errno) {
	if x.Sign() < 0 || x.BitLen() > 128 {
		return wide.U{}, api.ErrOver
	}
	lo := new(big.Int).And(x, bigWord(all))
	return wide.U{Hi: new(big.Int).Rsh(x, 64).Uint64(), Lo: lo.Uint64()}, api.OK
}

// P1.1: Of.
func TestOf(t *testing.T) {
	for _, x := range words() {
		if u := wide.Of(x); u != (wide.U{Lo: x}) {
			t.Errorf("Of(%d) is %v", x, u)
		}
	}
}

// P1.1: Cmp, Add and Sub, of all pairs.
func TestPairs(t *testing.T) {
	list := numbers()
	for _, a := range list {
		x := bigOf(a)
		for _, b := range list {
			y := bigOf(b)
			if got, want := a.Cmp(b), x.Cmp(y); got != want {
				t.Errorf("%v.Cmp(%v) is %d, not %d", a, b, got, want)
			}
			got, err := a.Add(b)
			if want, e := fromBig(new(big.Int).Add(x, y)); got != want || err != e {
				t.Errorf("%v.Add(%v) is %v, %d, not %v, %d", a, b, got, err, want, e)
			}
			got, err = a.Sub(b)
			if want, e := fromBig(new(big.Int).Sub(x, y)); got != want || err != e {
				t.Errorf("%v.Sub(%v) is %v, %d, not %v, %d", a, b, got, err, want, e)
			}
		}
	}
}

// P1.1: the greatest number still fits; 2^128 doesn't, and nothing is left of it.
func TestAddAtTheEnd(t *testing.T) {
	end := wide.U{Hi: all, Lo: all}
	for _, x := range []struct {
		a, b, want wide.U
		err        api.Errno
	}{
		{wide.U{Hi: all, Lo: all - 1}, wide.Of(1), end, api.OK},
		{wide.U{Hi: 1<<63 - 1, Lo: all}, wide.U{Hi: 1 << 63}, end, api.OK},
		{end, wide.Of(0), end, api.OK},
		{end, wide.Of(1), wide.U{}, api.ErrOver},
		{end, wide.Of(2), wide.U{}, api.ErrOver},
		{end, end, wide.U{}, api.ErrOver},
		{wide.U{Hi: 1 << 63}, wide.U{Hi: 1 << 63}, wide.U{}, api.ErrOver},
		{wide.U{Hi: 1<<63 - 1, Lo: all}, wide.U{Hi: 1 << 63, Lo: 1}, wide.U{}, api.ErrOver},
	} {
		for _, p := range [][2]wide.U{{x.a, x.b}, {x.b, x.a}} {
			if got, err := p[0].Add(p[1]); got != x.want || err != x.err {
				t.Errorf("%v.Add(%v) is %v, %d", p[0], p[1], got, err)
			}
		}
	}
}

// P1.1: a difference may be 0, but not below it.
func TestSubAtNought(t *testing.T) {
	for _, a := range numbers() {
		if got, err := a.Sub(a); got != (wide.U{}) || err != api.OK {
			t.Errorf("%v less itself is %v, %d", a, got, err)
		}
		b, err := a.Add(wide.Of(1))
		if err != api.OK {
			continue
		}
		if got, err := a.Sub(b); got != (wide.U{}) || err != api.ErrOver {
			t.Errorf("%v.Sub(%v) is %v, %d", a, b, got, err)
		}
		if got, err := b.Sub(a); got != wide.Of(1) || err != api.OK {
			t.Errorf("%v.Sub(%v) is %v, %d", b, a, got, err)
		}
	}
}

// P1.1: Mul.
func TestMul(t *testing.T) {
	for _, a := range words() {
		for _, b := range words() {
			want, _ := fromBig(new(big.Int).Mul(bigWord(a), bigWord(b)))
			if got := wide.Mul(a, b); got != want {
				t.Errorf("Mul(%d, %d) is %v, not %v", a, b, got, want)
			}
		}
	}
}

// P1.1: Div, by 0, too.
func TestDiv(t *testing.T) {
	for _, a := range numbers() {
		for _, b := range words() {
			got, left, err := a.Div(b)
			if b == 0 {
				if got != (wide.U{}) || left != 0 || err != api.ErrZero {
					t.Errorf("%v.Div(0) is %v, %d, %d", a, got, left, err)
				}
				continue
			}
			quo, rest := new(big.Int).QuoRem(bigOf(a), bigWord(b), new(big.Int))
			want, _ := fromBig(quo)
			if got != want || left != rest.Uint64() || err != api.OK {
				t.Errorf("%v.Div(%d) is %v, %d, %d, not %v, %v", a, b, got, left, err, want, rest)
			}
		}
	}
}
