package ether_test

import (
	"bytes"
	"testing"

	"sandglass/api"
	"sandglass/ether"
)

// holdForm holds Decode of a text, whose check fits, against what it must be.
func holdForm(t *testing.T, text []byte) {
	t.Helper()
	want, ok := frameOf(text)
	got, err := ether.Decode(closed(text))
	if ok && (err != api.OK || !same(got, want)) {
		t.Errorf("Decode of % x is %d, %s, not %s", text, err, told(got), told(want))
	}
	if !ok && (err != api.ErrForm || !same(got, ether.Frame{})) {
		t.Errorf("Decode of % x is %d, %s", text, err, told(got))
	}
}

// refused tells that bytes aren't taken as they must not be.
func refused(t *testing.T, what string, b []byte, want api.Errno) {
	t.Helper()
	if f, err := ether.Decode(b); err != want || !same(f, ether.Frame{}) {
		t.Errorf("Decode of %s is %d, not %d, and %s", what, err, want, told(f))
	}
}

// P5.2: each frame is read as it was written, and its bytes are written again as they were read.
func TestDecode(t *testing.T) {
	for _, f := range frames() {
		b := closed(textOf(f))
		got, err := ether.Decode(b)
		if err != api.OK || !same(got, f) {
			t.Errorf("Decode of %s is %d, %s", told(f), err, told(got))
			continue
		}
		if again, err := ether.Encode(got); err != api.OK || !bytes.Equal(again, b) {
			t.Errorf("what Decode of %s answers is written as %d, % x", told(f), err, again)
		}
	}
}

// P5.2: fewer than 64 bytes, more than 1600, whatever else is wrong with them.
func TestDecodeLengths(t *testing.T) {
	refused(t, "nil", nil, api.ErrShort)
	for n := range 64 {
		refused(t, "few noughts", make([]byte, n), api.ErrShort)
		if n >= 4 {
			refused(t, "few closed bytes", closed(data(n-4)), api.ErrShort)
		}
		if n >= 20 {
			short := append(append(bytes.Clone(here[:]), there[:]...), 8, 0, 0, byte(n-20))
			refused(t, "a frame that isn't filled up", closed(append(short, data(n-20)...)), api.ErrShort)
		}
	}
	f := ether.Frame{Dst: here, Type: 0x800, Data: data(44)}
	b := closed(textOf(f))
	if got, err := ether.Decode(b); len(b) != 64 || err != api.OK || !same(got, f) {
		t.Error("Decode of just 64 bytes is", err, told(got))
	}
	refused(t, "a byte less than a frame", b[:63], api.ErrShort)
	refused(t, "a byte more than a frame", append(bytes.Clone(b), 0), api.ErrSum)
	for _, f := range []ether.Frame{{Type: 0x800}, {Type: 0x800, Tagged: true}, {Type: 0x800, Many: true}, {Type: 0x800, Tagged: true, Many: true}} {
		f.Data = data(1600 - head(f))
		b := closed(textOf(f))
		if got, err := ether.Decode(b); len(b) != 1600 || err != api.OK || !same(got, f) {
			t.Error("Decode of just 1600 bytes is", err, told(got))
		}
		refused(t, "a byte more than 1600", append(bytes.Clone(b), 0), api.ErrLong)
		f.Data = data(1601 - head(f))
		refused(t, "a frame of 1601", closed(textOf(f)), api.ErrLong)
	}
	for _, n := range []int{1601, 1602, 2000, 65536, 70000} {
		refused(t, "many noughts", make([]byte, n), api.ErrLong)
		refused(t, "many closed bytes", closed(data(n-4)), api.ErrLong)
	}
}

// P5.2: a check that doesn't fit goes ahead of bytes of no frame.
func TestDecodeSum(t *testing.T) {
	for _, n := range []int{64, 65, 100, 1599, 1600} {
		refused(t, "noughts", make([]byte, n), api.ErrSum)
		refused(t, "no frame", data(n), api.ErrSum)
		refused(t, "no frame, closed", closed(data(n-4)), api.ErrForm)
	}
	for _, f := range []ether.Frame{{Type: 0x800}, {Type: 0x88f7, Tagged: true, Vid: 5, Data: data(50)}, {Dst: here, Src: there, Type: 0x800, Tagged: true, Many: true, Seq: 9, Data: data(1570)}} {
		b := closed(textOf(f))
		for i := range 8 * len(b) {
			if i > 700 && i < 8*len(b)-60 && i%61 != 0 {
				continue
			}
			b[i/8] ^= 1 << (i % 8)
			refused(t, "a frame with one bit turned", b, api.ErrSum)
			b[i/8] ^= 1 << (i % 8)
		}
		n := len(b)
		b[n-4], b[n-3], b[n-2], b[n-1] = b[n-1], b[n-2], b[n-3], b[n-4]
		refused(t, "a frame whose check has the highest byte first", b, api.ErrSum)
	}
}

// P5.2: of a frame with both tags, each byte of the head, turned to each value.
func TestDecodeHead(t *testing.T) {
	for _, f := range []ether.Frame{
		{Dst: here, Src: there, Tagged: true, Vid: 5, Prio: 6, Drop: true, Many: true, Seq: 700, Type: 0x88f7, Data: []byte("hello")},
		{Dst: here, Src: there, Tagged: true, Vid: 4094, Type: 0x600, Data: data(200)},
		{Dst: here, Src: there, Many: true, Seq: 65535, Type: 0x800, Data: data(38)},
		{Dst: here, Src: there, Type: 0xffff, Data: data(44)},
		{Dst: here, Type: 0x800},
	} {
		text := textOf(f)
		for i := range min(len(text), 40) {
			was := text[i]
			for c := range 256 {
				text[i] = byte(c)
				holdForm(t, text)
			}
			text[i] = was
		}
	}
}

// P5.2: to the letter, bytes of no frame whose check fits.
func TestDecodeForm(t *testing.T) {
	ends := string(here[:]) + string(there[:])
	for _, x := range []struct{ what, head string }{
		{"noughts", ""},
		{"Type 0", ends},
		{"Type 0x5ff", ends + "\x05\xff\x00\x00"},
		{"Vid 4095", ends + "\x81\x00\xcf\xff\x08\x00\x00\x00"},
		{"Vid 4095, Drop", ends + "\x81\x00\x1f\xff\x08\x00\x00\x00"},
		{"the first nought", ends + "\xf1\xc1\x01\x00\x00\x07\x08\x00\x00\x00"},
		{"the second nought", ends + "\xf1\xc1\x00\x01\x00\x07\x08\x00\x00\x00"},
		{"the first nought, with both tags", ends + "\x81\x00\x00\x05\xf1\xc1\x80\x00\x00\x07\x08\x00\x00\x00"},
		{"the second nought, with both tags", ends + "\x81\x00\x00\x05\xf1\xc1\x00\x80\x00\x07\x08\x00\x00\x00"},
		{"two VLANs", ends + "\x81\x00\x00\x05\x81\x00\x00\x05\x08\x00\x00\x00"},
		{"two numbers", ends + "\xf1\xc1\x00\x00\x00\x07\xf1\xc1\x00\x00\x00\x07\x08\x00\x00\x00"},
		{"tags the wrong way round", ends + "\xf1\xc1\x00\x00\x00\x07\x81\x00\x00\x05\x08\x00\x00\x00"},
		{"a low Type behind a VLAN", ends + "\x81\x00\x00\x05\x05\xff\x00\x00"},
		{"a low Type behind a number", ends + "\xf1\xc1\x00\x00\x00\x07\x05\xff\x00\x00"},
		{"more data than there are", ends + "\x08\x00\x00\x2d"},
		{"far more data", ends + "\x08\x00\xff\xff"},
		{"more data, with a VLAN", ends + "\x81\x00\x00\x05\x08\x00\x00\x29"},
		{"more data, with a number", ends + "\xf1\xc1\x00\x00\x00\x07\x08\x00\x00\x27"},
		{"more data, with both", ends + "\x81\x00\x00\x05\xf1\xc1\x00\x00\x00\x07\x08\x00\x00\x23"},
		{"a byte behind no data", ends + "\x08\x00\x00\x00\x01"},
		{"a byte behind data", ends + "\x08\x00\x00\x03\x01\x02\x03\x04"},
	} {
		text := make([]byte, 60)
		copy(text, x.head)
		refused(t, x.what, closed(text), api.ErrForm)
	}
}

// P5.2: each nought behind data must be one; there are just those up to 60 bytes.
func TestDecodeNoughts(t *testing.T) {
	for _, f := range []ether.Frame{{Type: 0x800}, {Type: 0x800, Tagged: true}, {Type: 0x800, Many: true}, {Type: 0x800, Tagged: true, Many: true}} {
		for n := range 64 - head(f) {
			f.Data = data(n)
			text := textOf(f)
			for i := head(f) - 4 + n; i < 60; i++ {
				for _, c := range []byte{1, 0x10, 0x80, 255} {
					text[i] = c
					refused(t, "a byte behind the data", closed(text), api.ErrForm)
				}
				text[i] = 0
			}
			holdForm(t, text)
		}
		for _, n := range []int{0, 5, 64 - head(f) - 1, 64 - head(f), 64 - head(f) + 1, 300} {
			f.Data = data(n)
			text := textOf(f)
			for _, more := range []int{1, 2, 4, 100, 1200} {
				refused(t, "noughts beyond 60 bytes", closed(append(bytes.Clone(text), make([]byte, more)...)), api.ErrForm)
				refused(t, "bytes beyond the data", closed(append(bytes.Clone(text), data(more)...)), api.ErrForm)
			}
			if len(text) > 60 {
				refused(t, "a byte less than the data", closed(text[:len(text)-1]), api.ErrForm)
			}
		}
	}
}

// P5.2: how many data there are is told by two bytes that must fit.
func TestDecodeDataLength(t *testing.T) {
	for _, f := range []ether.Frame{{Type: 0x800}, {Type: 0x800, Tagged: true, Many: true}} {
		for _, n := range []int{0, 30, 50, 255, 256, 300, 1600 - head(f)} {
			f.Data = data(n)
			text := textOf(f)
			at := head(f) - 4 - 2
			for _, m := range []int{0, 1, n - 1, n, n + 1, n + 2, n + 4, n ^ 256, n + 512, n + 2048, 44, 60, 1580, 65535} {
				if m < 0 {
					continue
				}
				text[at], text[at+1] = byte(m>>8), byte(m)
				holdForm(t, text)
			}
		}
	}
}

// P5.2: texts with bits turned and bytes of all kinds, each either a frame that is written so, or none.
func TestDecodeTries(t *testing.T) {
	x := uint32(1)
	next := func(n int) int {
		x = x*1664525 + 1013904223
		return int(x>>8) % n
	}
	for _, f := range frames() {
		text := textOf(f)
		for range 12 {
			i := next(8 * len(text))
			if next(3) > 0 {
				i = next(8 * 30)
			}
			text[i/8] ^= 1 << (i % 8)
			holdForm(t, text)
			if next(2) == 0 {
				text[i/8] ^= 1 << (i % 8)
			}
		}
	}
	for range 20000 {
		text := make([]byte, 60+next(12)*next(2))
		at := 12
		for _, part := range [][]byte{{0x81, 0, byte(next(256)), byte(next(256))}, {0xf1, 0xc1, 0, byte(next(2)), byte(next(256)), 9}, {byte(next(16)), byte(next(256)), 0, byte(next(60))}} {
			if next(3) > 0 {
				at += copy(text[at:], part)
			}
		}
		for range next(4) {
			text[at+next(len(text)-at)] = byte(next(256))
		}
		holdForm(t, text)
	}
}

// P5.1, P5.2: what is handed in stays as it is, with the room behind it, and shares nothing with what comes out.
func TestMemory(t *testing.T) {
	for _, n := range []int{0, 1, 5, 33, 34, 35, 44, 45, 500, 1570} {
		room := data(n + 100)
		f := ether.Frame{Dst: here, Tagged: true, Many: true, Type: 0x800, Data: room[:n]}
		b, err := ether.Encode(f)
		if err != api.OK || !bytes.Equal(room, data(n+100)) {
			t.Fatalf("Encode of %d bytes: %d, or it changed them, or the room behind", n, err)
		}
		other, _ := ether.Encode(f)
		was := bytes.Clone(b)
		for i := range other {
			other[i]++
		}
		if !bytes.Equal(room, data(n+100)) || !bytes.Equal(b, was) {
			t.Fatalf("Encode of %d bytes shares them, or its answers share some", n)
		}
		bytesRoom := append(bytes.Clone(b), data(100)...)
		was = bytes.Clone(bytesRoom)
		got, err := ether.Decode(bytesRoom[:len(b)])
		more, _ := ether.Decode(bytesRoom[:len(b)])
		if err != api.OK || !bytes.Equal(bytesRoom, was) {
			t.Fatalf("Decode of %d bytes: %d, or it changed them, or the room behind", len(b), err)
		}
		for i := range got.Data {
			got.Data[i]++
		}
		for range 80 {
			got.Data = append(got.Data, 77) // into the room behind them, if there is some
		}
		if !bytes.Equal(bytesRoom, was) || !bytes.Equal(more.Data, data(n)) {
			t.Fatalf("Decode of %d bytes shares them, or its answers share some", len(b))
		}
		for i := range bytesRoom {
			bytesRoom[i]++
		}
		if !bytes.Equal(more.Data, data(n)) {
			t.Fatalf("Decode of %d bytes keeps them", len(b))
		}
	}
}

// P5.3: of a first byte the lowest bit alone.
func TestGroup(t *testing.T) {
	for c := range 256 {
		for _, other := range []byte{0, 1, 2, 255} {
			m := api.Mac{byte(c), other, other, other, other, other}
			if got := ether.Group(m); got != (c%2 == 1) {
				t.Errorf("Group of % x is %v", m, got)
			}
		}
	}
}

// P5.3: addresses as numbers, and back.
func TestNumOf(t *testing.T) {
	for _, x := range []struct {
		m api.Mac
		n int
	}{
		{api.Mac{}, 0},
		{api.Mac{0, 0, 0, 0, 0, 1}, 1},
		{api.Mac{0, 0, 0, 0, 0, 255}, 255},
		{api.Mac{0, 0, 0, 0, 1, 2}, 258},
		{api.Mac{1, 2, 3, 4, 5, 6}, 0x010203040506},
		{api.Mac{0xf6, 0xe5, 0xd4, 0xc3, 0xb2, 0xa1}, 0xf6e5d4c3b2a1},
		{api.Mac{1, 0, 0, 0, 0, 0}, 1 << 40},
		{api.Mac{0x80, 0, 0, 0, 0, 0}, 1 << 47},
		{api.Mac{0x7f, 255, 255, 255, 255, 255}, 1<<47 - 1},
		{api.Mac{255, 255, 255, 255, 255, 255}, 1<<48 - 1},
		{api.Mac{255, 255, 255, 255, 255, 254}, 1<<48 - 2},
	} {
		if got := ether.Num(x.m); got != x.n {
			t.Errorf("Num of % x is %d, not %d", x.m, got, x.n)
		}
		for _, n := range []int{x.n, x.n + 1<<48, x.n - 1<<48, x.n + 1<<62, x.n + least, x.n | 0x7fff<<48, x.n | -1<<48} {
			if got := ether.Of(n); got != x.m {
				t.Errorf("Of(%d) is % x, not % x", n, got, x.m)
			}
		}
	}
	for _, x := range []struct {
		n int
		m api.Mac
	}{
		{-1, api.Mac{255, 255, 255, 255, 255, 255}},
		{-2, api.Mac{255, 255, 255, 255, 255, 254}},
		{-256, api.Mac{255, 255, 255, 255, 255, 0}},
		{most, api.Mac{255, 255, 255, 255, 255, 255}},
		{least, api.Mac{}},
		{1 << 48, api.Mac{}},
		{1<<48 + 7, api.Mac{0, 0, 0, 0, 0, 7}},
	} {
		if got := ether.Of(x.n); got != x.m {
			t.Errorf("Of(%d) is % x, not % x", x.n, got, x.m)
		}
	}
	for bit := range 48 {
		m := ether.Of(1 << bit)
		if m[5-bit/8] != 1<<(bit%8) || ether.Num(m) != 1<<bit {
			t.Errorf("Of bit %d is % x, and that %d", bit, m, ether.Num(m))
		}
	}
}
