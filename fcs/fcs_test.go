package fcs_test

import (
	"bytes"
	"hash/crc32"
	"testing"

	"sandglass/fcs"
)

// byRule is the check of a text, word by word as the document says it.
func byRule(b []byte) uint32 {
	x := uint32(0xffffffff)
	for _, c := range b {
		x ^= uint32(c)
		for range 8 {
			if x%2 == 1 {
				x = x/2 ^ 0xedb88320
			} else {
				x /= 2
			}
		}
	}
	return x ^ 0xffffffff
}

// texts are those of each length up to 80 and of some more, with all bytes alike and with bytes of all kinds.
func texts() [][]byte {
	var list [][]byte
	x := uint32(1)
	for n := range 1700 {
		if n > 80 && n%97 != 0 && n != 1596 && n != 1600 {
			continue
		}
		mixed := make([]byte, n)
		for i := range mixed {
			x = x*1664525 + 1013904223
			mixed[i] = byte(x >> 24)
		}
		list = append(list, mixed, make([]byte, n), bytes.Repeat([]byte{255}, n))
	}
	return list
}

// closed is a text with the check that the document asks for behind it.
func closed(b []byte) []byte {
	x := byRule(b)
	return append(bytes.Clone(b), byte(x), byte(x>>8), byte(x>>16), byte(x>>24))
}

// turn turns a bit, counted from the first byte's lowest one on.
func turn(b []byte, bit int) { b[bit/8] ^= 1 << (bit % 8) }

// P4.1: the check, also held against the one in Go's library.
func TestSum(t *testing.T) {
	for _, b := range texts() {
		was := bytes.Clone(b)
		got := fcs.Sum(b)
		if want := byRule(b); got != want || got != crc32.ChecksumIEEE(b) {
			t.Fatalf("Sum of %d bytes is %#x, not %#x", len(b), got, want)
		}
		if !bytes.Equal(b, was) {
			t.Fatalf("Sum changed its %d bytes", len(b))
		}
	}
}

// P4.1: to the letter, the checks of some texts.
func TestSumEdges(t *testing.T) {
	for _, x := range []struct {
		text string
		want uint32
	}{
		{"", 0},
		{"\x00", 0xd202ef8d},
		{"\x01", 0xa505df1b},
		{"\x80", 0x3fba6cad},
		{"\xff", 0xff000000},
		{"a", 0xe8b7be43},
		{"abc", 0x352441c2},
		{"123456789", 0xcbf43926},
		{"\x00\x00\x00\x00", 0x2144df1c},
		{"\xff\xff\xff\xff", 0xffffffff},
	} {
		if got := fcs.Sum([]byte(x.text)); got != x.want {
			t.Errorf("Sum of %q is %#x, not %#x", x.text, got, x.want)
		}
	}
	if got := fcs.Sum(nil); got != 0 {
		t.Errorf("Sum of none is %#x", got)
	}
}

// P4.1: what Close puts behind a text, and that Open takes just that off again.
func TestCloseOpen(t *testing.T) {
	for _, b := range texts() {
		got := fcs.Close(b)
		if !bytes.Equal(got, closed(b)) {
			t.Fatalf("Close of %d bytes has % x behind it", len(b), got[len(got)-4:])
		}
		text, ok := fcs.Open(got)
		if !ok || !bytes.Equal(text, b) {
			t.Fatalf("Open of %d closed bytes is % x, %v", len(b), text, ok)
		}
	}
	if got := fcs.Close([]byte("123456789")); string(got) != "123456789\x26\x39\xf4\xcb" {
		t.Errorf("Close is % x", got)
	}
	if got := fcs.Close(nil); string(got) != "\x00\x00\x00\x00" {
		t.Errorf("Close of none is % x", got)
	}
	if text, ok := fcs.Open([]byte{0, 0, 0, 0}); !ok || len(text) != 0 {
		t.Errorf("Open of four noughts is % x, %v", text, ok)
	}
}

// P4.1: what Open doesn't take.
func TestOpenRefuses(t *testing.T) {
	for _, b := range [][]byte{
		nil, {}, {0}, {0, 0}, {0, 0, 0}, {255, 255, 255}, // fewer than 4
		{0, 0, 0, 1}, {1, 0, 0, 0}, {255, 255, 255, 255}, // the check of no byte is 0
		[]byte("123456789\xcb\xf4\x39\x26"),                                      // the highest first
		[]byte("\x26\x39\xf4\xcb123456789"),                                      // ahead
		[]byte("123456789\x26\x39\xf4"), []byte("123456789\x26\x39\xf4\xcb\x00"), // too few, one too many
		[]byte("23456789\x26\x39\xf4\xcb"), []byte("123456789"),
	} {
		if text, ok := fcs.Open(b); ok || len(text) != 0 {
			t.Errorf("Open of % x is % x, %v", b, text, ok)
		}
	}
	for _, b := range texts() {
		for _, by := range []uint32{1, 0xffffffff, 0x80000000, 0x01000000, 0xedb88320, 0x00ff00ff} {
			c := closed(b)
			for i := range 4 {
				c[len(b)+i] ^= byte(by >> (8 * i))
			}
			if text, ok := fcs.Open(c); ok || len(text) != 0 {
				t.Fatalf("Open of %d bytes, the check laid over %#x, is % x, %v", len(b), by, text, ok)
			}
		}
	}
}

// P4.1: what is handed in stays as it is, with the room behind it, and shares nothing with what comes out.
func TestMemory(t *testing.T) {
	for _, n := range []int{0, 1, 3, 60, 1596} {
		room := bytes.Repeat([]byte{7}, n+64)
		c := fcs.Close(room[:n])
		if !bytes.Equal(room, bytes.Repeat([]byte{7}, n+64)) {
			t.Fatalf("Close of %d bytes changed them, or the room behind", n)
		}
		for i := range c {
			c[i]++
		}
		if !bytes.Equal(room, bytes.Repeat([]byte{7}, n+64)) {
			t.Fatalf("Close of %d bytes shares them", n)
		}
		copy(room, closed(room[:n]))
		was := bytes.Clone(room)
		text, ok := fcs.Open(room[:n+4])
		if !ok || !bytes.Equal(room, was) {
			t.Fatalf("Open of %d bytes: %v, or it changed them", n, ok)
		}
		for i := range text {
			text[i]++
		}
		text = append(text, 1) // into the room behind it, if there is some
		if !bytes.Equal(room, was) {
			t.Fatalf("Open of %d bytes shares them", n)
		}
		turn(room, 3)
		was = bytes.Clone(room)
		fcs.Hit(room[:n+4])
		if !bytes.Equal(room, was) {
			t.Fatalf("Hit of %d bytes changed them", n)
		}
	}
}

// P4.3: runs of 1 to 32 bits, turned all of them, or the first and the last and some between, at each place of short texts and at the ends and across the check of long ones.
func TestRuns(t *testing.T) {
	x := uint32(1)
	for _, b := range texts() {
		if len(b) > 20 && len(b) != 60 && len(b) != 1596 {
			continue
		}
		good := fcs.Close(b)
		bits := 8 * len(good)
		for long := 1; long <= 32; long++ {
			for at := 0; at+long <= bits; at++ {
				if bits > 200 && at > 40 && at < bits-80 {
					continue
				}
				x = x*1664525 + 1013904223
				between := []uint32{0xffffffff, 0, x}
				for _, which := range between {
					c := bytes.Clone(good)
					for k := range long {
						if k == 0 || k == long-1 || which>>k&1 == 1 {
							turn(c, at+k)
						}
					}
					if text, ok := fcs.Open(c); ok || len(text) != 0 {
						t.Fatalf("Open of %d bytes with a run of %d bits from bit %d on is % x, %v", len(b), long, at, text, ok)
					}
				}
			}
		}
	}
}
