// Package rate is layer 2: see shared/doc/02-rate.md.
package rate

import (
	"math"

	"sandglass/api"
	"sandglass/wide"
)

// Rate is how fast a clock runs by another one, in parts of 2 to the power of 41.
type Rate int

// One is as fast.
const One Rate = 1 << 41

// Most is how far a rate may be from One.
const Most Rate = 1 << 34

// mostPpm is how many millionths more or fewer than One Of takes.
const mostPpm = 5000

// A float of 64 bits: a sign, 11 bits of its power of 2, 52 bits behind a
// first one that isn't written down.
const (
	signBit  = 1 << 63
	tailBits = 52
	firstBit = 1 << tailBits
	tailMask = firstBit - 1
	endless  = 0x7ff << tailBits // the bits of what is infinite; those of what is no number are above it
	unitAt   = 1075              // at this power the float is its own bits, read as a whole number
)

// A millionth of One is 2^41 / 10^6 = 2^millionShift / millionBy parts.
const (
	millionShift = 35
	millionBy    = 15625
)

// Check tells whether a rate is right.
func (r Rate) Check() api.Errno {
	if r < One-Most || r > One+Most {
		return api.ErrRate
	}
	return api.OK
}

// Of is the rate that is so many millionths faster.
func Of(ppm float64) (Rate, api.Errno) {
	switch {
	case isNoNumber(ppm):
		return 0, api.ErrNaN
	case isEndless(ppm):
		return 0, api.ErrInf
	case ppm > mostPpm, ppm < -mostPpm:
		return 0, api.ErrRate
	}
	return One + parts(ppm), api.OK
}

// Ppm is how many millionths faster a rate is.
func (r Rate) Ppm() float64 {
	if r.Check() != api.OK {
		return math.NaN()
	}
	// The product is below 2^53, so the float is exact, and so is its part.
	return float64((r-One)*millionBy) / (1 << millionShift)
}

// Mul is one rate by another one.
func (r Rate) Mul(s Rate) (Rate, api.Errno) { return mulDiv(int(r), int(s), int(One)) }

// Inv is how fast the other one runs by this one.
func (r Rate) Inv() (Rate, api.Errno) { return mulDiv(int(One), int(One), int(r)) }

// Between is the rate of two clocks by how far each has come; ahead: the one whose rate it is.
func Between(ahead, by int) (Rate, api.Errno) {
	if ahead < 0 || by < 0 {
		return 0, api.ErrArg
	}
	r, err := mulDiv(ahead, int(One), by)
	if err == api.OK {
		err = r.Check()
	}
	if err != api.OK {
		return 0, err
	}
	return r, api.OK
}

// Ends is the least and the greatest of some numbers, and how many are any.
func Ends(list []float64) (float64, float64, int) {
	var least, greatest float64
	count := 0
numbers:
	for _, x := range list {
		switch {
		case isNoNumber(x):
			continue numbers
		case count == 0:
			least, greatest = x, x
		case place(x) < place(least):
			least = x
		case place(x) > place(greatest):
			greatest = x
		}
		count++
	}
	return least, greatest, count
}

// mulDiv is a times b by c, to the nearest, as a rate.
func mulDiv(a, b, c int) (Rate, api.Errno) {
	x, err := wide.MulDiv(a, b, c, wide.Near)
	return Rate(x), err
}

// isNoNumber tells whether a float is no number.
func isNoNumber(x float64) bool { return math.Float64bits(x)&^signBit > endless }

// isEndless tells whether a float is infinite.
func isEndless(x float64) bool { return math.Float64bits(x)&^signBit == endless }

// place is where a number stands among all floats: the bits of those above
// nought rise with them, the bits of those below it fall.
func place(x float64) uint64 {
	b := math.Float64bits(x)
	if b&signBit != 0 {
		return ^b
	}
	return b | signBit
}

// parts is how many parts of One so many millionths are, to the nearest one.
// It works on the float's bits, so that nothing is rounded ahead of that.
func parts(ppm float64) Rate {
	b := math.Float64bits(ppm)
	size := int(b&tailMask | firstBit)
	down := unitAt - int(b&^signBit>>tailBits) // ppm is size / 2^down
	shift := down - millionShift               // above nought, up to mostPpm
	if millionBy > math.MaxInt>>shift {
		return 0 // too small by far: half of millionBy << shift is above size
	}
	if b&signBit != 0 {
		size = -size
	}
	r, _ := mulDiv(size, 1, millionBy<<shift)
	return r
}
