package fcs_test

import (
	"bytes"
	"testing"

	"sandglass/fcs"
)

// hit tries each bit, from the first one on.
func hit(b []byte) (int, int, bool) {
	if len(b) < 4 || bytes.Equal(closed(b[:len(b)-4]), b) {
		return 0, 0, false
	}
	for i := range b {
		for k := range 8 {
			c := bytes.Clone(b)
			c[i] ^= 1 << k
			if bytes.Equal(closed(c[:len(c)-4]), c) {
				return i, k, true
			}
		}
	}
	return 0, 0, false
}

// holdHit holds Hit against what it must be.
func holdHit(t *testing.T, b []byte) {
	t.Helper()
	at, bit, ok := fcs.Hit(b)
	if wantAt, wantBit, want := hit(b); at != wantAt || bit != wantBit || ok != want {
		t.Errorf("Hit of % x is %d, %d, %v, not %d, %d, %v", b, at, bit, ok, wantAt, wantBit, want)
	}
}

// P4.2: each bit of texts of all lengths, the check's bits too, turned alone.
func TestHitEachBit(t *testing.T) {
	for _, b := range texts() {
		c := closed(b)
		for i := range 8 * len(c) {
			if i > 200 && i < 8*len(c)-200 && i%41 != 0 {
				continue
			}
			turn(c, i)
			if at, bit, ok := fcs.Hit(c); at != i/8 || bit != i%8 || !ok {
				t.Fatalf("Hit of %d bytes with bit %d turned is %d, %d, %v", len(b), i, at, bit, ok)
			}
			turn(c, i)
		}
	}
}

// P4.2: what fits already, has fewer than 4 bytes, or no one bit makes fit.
func TestHitNone(t *testing.T) {
	for _, b := range [][]byte{
		nil, {}, {0}, {1}, {0, 0}, {0, 0, 0}, {1, 0, 0}, {255, 255, 255}, // fewer than 4
		{0, 0, 0, 0}, []byte("123456789\x26\x39\xf4\xcb"), // fits
		{3, 0, 0, 0}, {0, 0, 0, 129}, {1, 0, 0, 1}, {255, 255, 255, 255}, // two bits or more
		[]byte("023456789\x27\x39\xf4\xcb"),
	} {
		if at, bit, ok := fcs.Hit(b); at != 0 || bit != 0 || ok {
			t.Errorf("Hit of % x is %d, %d, %v", b, at, bit, ok)
		}
	}
	for _, b := range texts() {
		if at, bit, ok := fcs.Hit(closed(b)); at != 0 || bit != 0 || ok {
			t.Fatalf("Hit of %d bytes that fit is %d, %d, %v", len(b), at, bit, ok)
		}
	}
}

// P4.2: to the letter, the ends of what Hit answers.
func TestHitEdges(t *testing.T) {
	for _, x := range []struct {
		b       string
		at, bit int
	}{
		{"\x01\x00\x00\x00", 0, 0},
		{"\x80\x00\x00\x00", 0, 7},
		{"\x00\x00\x00\x01", 3, 0},
		{"\x00\x00\x00\x80", 3, 7},
		{"023456789\x26\x39\xf4\xcb", 0, 0},
		{"\xb123456789\x26\x39\xf4\xcb", 0, 7},
		{"123456788\x26\x39\xf4\xcb", 8, 0},
		{"12345678\xb9\x26\x39\xf4\xcb", 8, 7},
		{"123456789\x27\x39\xf4\xcb", 9, 0},
		{"123456789\x26\x39\xf4\x4b", 12, 7},
	} {
		if at, bit, ok := fcs.Hit([]byte(x.b)); at != x.at || bit != x.bit || !ok {
			t.Errorf("Hit of % x is %d, %d, %v, not %d, %d", x.b, at, bit, ok, x.at, x.bit)
		}
	}
}

// P4.2: all bytes that no one closed, and texts in which two or three bits were turned.
func TestHitTries(t *testing.T) {
	for a := range 256 {
		for _, rest := range []string{"\x00\x00\x00", "\x02\xef\x8d\xd2", "\x8d\xef\x02\xd2", "\x00\x00\x00\x00", "\xff\xff\xff"} {
			holdHit(t, append([]byte{byte(a)}, rest...))
		}
	}
	x := uint32(1)
	for n := range 24 {
		for range 12 {
			b := make([]byte, n)
			for i := range b {
				x = x*1664525 + 1013904223
				b[i] = byte(x >> 24)
			}
			holdHit(t, b)
			c := closed(b)
			for range 3 {
				x = x*1664525 + 1013904223
				turn(c, int(x>>8)%(8*len(c)))
				holdHit(t, c)
			}
		}
	}
}
