// Package wide is layer 1: see shared/doc/01-wide.md.
package wide

import (
	"math"
	"math/bits"

	"sandglass/api"
)

// U is a number of 128 bits.
type U struct {
	Hi uint64
	Lo uint64
}

// How something is rounded that is no whole number.
const (
	Down = iota // to the lower one
	Up          // to the higher one
	Near        // to the nearer one, of two as near to the even one
)

// Of is a number of 64 bits.
func Of(x uint64) U { return U{Lo: x} }

// Cmp tells whether a number is less than another one (-1), the same (0), or greater (1).
func (a U) Cmp(b U) int {
	switch {
	case a == b:
		return 0
	case a.Hi < b.Hi, a.Hi == b.Hi && a.Lo < b.Lo:
		return -1
	}
	return 1
}

// Add is the sum.
func (a U) Add(b U) (U, api.Errno) {
	lo, carry := bits.Add64(a.Lo, b.Lo, 0)
	hi, over := bits.Add64(a.Hi, b.Hi, carry)
	if over != 0 {
		return U{}, api.ErrOver
	}
	return U{Hi: hi, Lo: lo}, api.OK
}

// Sub is the difference.
func (a U) Sub(b U) (U, api.Errno) {
	lo, borrow := bits.Sub64(a.Lo, b.Lo, 0)
	hi, under := bits.Sub64(a.Hi, b.Hi, borrow)
	if under != 0 {
		return U{}, api.ErrOver
	}
	return U{Hi: hi, Lo: lo}, api.OK
}

// Mul is the product of two numbers of 64 bits.
func Mul(a, b uint64) U {
	hi, lo := bits.Mul64(a, b)
	return U{Hi: hi, Lo: lo}
}

// Div is how often a number goes into one, and what is left.
func (a U) Div(b uint64) (U, uint64, api.Errno) {
	if b == 0 {
		return U{}, 0, api.ErrZero
	}
	// What the upper half leaves is less than b: bits.Div64 panics otherwise.
	lo, left := bits.Div64(a.Hi%b, a.Lo, b)
	return U{Hi: a.Hi / b, Lo: lo}, left, api.OK
}

// MulDiv is a times b by c, rounded.
func MulDiv(a, b, c, round int) (int, api.Errno) {
	if round != Down && round != Up && round != Near {
		return 0, api.ErrArg
	}
	by := size(c)
	whole, left, err := Mul(size(a), size(b)).Div(by)
	if err != api.OK {
		return 0, err
	}
	below := isBelow(a, b, c)
	if goesOut(whole, left, by, below, round) {
		// The product is 2^126 at most: there is room for one more.
		whole, _ = whole.Add(Of(1))
	}
	return signed(whole, below)
}

// Held is the same, but what doesn't fit is the greatest number, or the least.
func Held(a, b, c, round int) int {
	x, err := MulDiv(a, b, c, round)
	if err != api.ErrOver {
		return x
	}
	if isBelow(a, b, c) {
		return math.MinInt
	}
	return math.MaxInt
}

// size is how far a number is from nought. The least int has no negative of
// its own kind, so the negation is that of the unsigned number.
func size(x int) uint64 {
	if x < 0 {
		return -uint64(x)
	}
	return uint64(x)
}

// isBelow tells whether a times b by c, if it isn't nought, is below it.
func isBelow(a, b, c int) bool {
	return (a < 0) != (b < 0) != (c < 0)
}

// goesOut tells whether a fraction's size, whole and left by by, is rounded
// to the next number away from nought, not to whole.
func goesOut(whole U, left, by uint64, below bool, round int) bool {
	switch {
	case left == 0:
		return false
	case round == Down:
		return below
	case round == Up:
		return !below
	}
	missing := by - left
	if left == missing {
		return whole.Lo%2 == 1
	}
	return left > missing
}

// signed is the int that is so far above nought, or below it.
func signed(far U, below bool) (int, api.Errno) {
	most := uint64(math.MaxInt)
	if below {
		most++ // there is one more below nought
	}
	if far.Cmp(Of(most)) > 0 {
		return 0, api.ErrOver
	}
	if below {
		return int(-far.Lo), api.OK
	}
	return int(far.Lo), api.OK
}
