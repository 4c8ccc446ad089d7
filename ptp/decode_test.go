package ptp_test

import (
	"bytes"
	"slices"
	"testing"

	"sandglass/api"
	"sandglass/ptp"
)

// holdDecode holds Decode of bytes against what it must be.
func holdDecode(t *testing.T, b []byte) {
	t.Helper()
	want, wantErr := msgOf(b)
	got, err := ptp.Decode(b)
	if err != wantErr || !same(got, want) {
		t.Errorf("Decode of % x is %d, %s, not %d, %s", b, err, told(got), wantErr, told(want))
	}
	if err != api.OK {
		return
	}
	if again, err := ptp.Encode(got); err != api.OK || !bytes.Equal(again, b) {
		t.Errorf("Decode of % x is written again as %d, % x", b, err, again)
	}
}

// refused tells that bytes aren't refused as they must be.
func refused(t *testing.T, what string, b []byte, want api.Errno) {
	t.Helper()
	if m, err := ptp.Decode(b); err != want || !same(m, ptp.Msg{}) {
		t.Errorf("Decode of %s, %d bytes, is %d, not %d, and %s", what, len(b), err, want, told(m))
	}
}

// P6.2: each message is read as it was written, and its bytes are written again as they were read.
func TestDecode(t *testing.T) {
	for _, m := range messages() {
		b := bytesOf(m)
		got, err := ptp.Decode(b)
		if err != api.OK || !same(got, m) {
			t.Errorf("Decode of %s is %d, %s", told(m), err, told(got))
			continue
		}
		if again, err := ptp.Encode(got); err != api.OK || !bytes.Equal(again, b) {
			t.Errorf("what Decode of %s answers is written as %d, % x", told(m), err, again)
		}
	}
}

// P6.2: bytes missing and bytes too many, of each kind.
func TestDecodeLengths(t *testing.T) {
	for _, kind := range kinds {
		list := []ptp.Msg{{Kind: kind}, full(kind)}
		if kind == ptp.Announce {
			list = append(list, ptp.Msg{Kind: kind, Path: path(1)}, ptp.Msg{Kind: kind, Path: path(32)}, ptp.Msg{Kind: kind, Path: slices.Repeat([]int{mostId}, 32)})
		}
		for _, m := range list {
			b := bytesOf(m)
			for n := range b {
				refused(t, told(m)+", some missing", b[:n], api.ErrShort)
				refused(t, told(m)+", some missing, no room behind", slices.Clip(bytes.Clone(b[:n])), api.ErrShort)
			}
			for _, more := range []int{1, 2, 6, 16, 300} {
				refused(t, told(m)+", noughts behind", append(bytes.Clone(b), make([]byte, more)...), api.ErrTrail)
				refused(t, told(m)+", bytes behind", append(bytes.Clone(b), bytes.Repeat([]byte{255}, more)...), api.ErrTrail)
			}
		}
	}
}

// P6.2: fewer than 20 bytes go ahead of all, then the first one.
func TestDecodeFirst(t *testing.T) {
	refused(t, "nil", nil, api.ErrShort)
	for first := range 256 {
		for n := range 20 {
			b := bytes.Repeat([]byte{255}, n)
			if n > 0 {
				b[0] = byte(first)
			}
			refused(t, "first byte "+told(ptp.Msg{Kind: first}), b, api.ErrShort)
		}
		for _, n := range []int{20, 21, 31, 35, 36, 37, 223, 300} {
			for _, c := range []byte{0, 1, 255} {
				b := bytes.Repeat([]byte{c}, n)
				b[0] = byte(first)
				holdDecode(t, b)
				switch {
				case first < 16 || first > 31:
					refused(t, "another form", b, api.ErrForm)
				case !slices.Contains(kinds, first-16):
					refused(t, "another kind", b, api.ErrKind)
				}
			}
		}
	}
}

// P6.2: a path's number above 32 goes ahead of bytes that are missing, of some too many and of what isn't right.
func TestDecodeMany(t *testing.T) {
	for _, domain := range []byte{0, 127, 128, 255} {
		for clocks := range 256 {
			b := append(bytesOf(full(ptp.Announce))[:30], byte(clocks))
			b[1] = domain
			for _, n := range []int{0, 1, 5, 6, 6*clocks - 1, 6 * clocks, 6*clocks + 1, 6 * 32, 6 * 33, 6*clocks + 300} {
				whole := append(bytes.Clone(b), bytes.Repeat([]byte{7}, max(0, n))...)
				holdDecode(t, whole)
				if clocks > 32 {
					refused(t, "a path that is too long", whole, api.ErrMany)
				}
			}
		}
	}
}

// P6.2: a number that isn't there isn't above 32, whatever stands ahead of it.
func TestDecodeManyMissing(t *testing.T) {
	for _, c := range []byte{0, 32, 33, 255} {
		b := bytes.Repeat([]byte{c}, 31)
		b[0], b[1] = 16+ptp.Announce, 0
		for n := 20; n < 31; n++ {
			refused(t, "an Announce without a path's number", b[:n], api.ErrShort)
		}
		holdDecode(t, b)
	}
}

// P6.2: what isn't right goes behind all else.
func TestDecodeArg(t *testing.T) {
	for _, kind := range kinds {
		b := bytesOf(full(kind))
		for domain := range 256 {
			b[1] = byte(domain)
			holdDecode(t, b)
			if domain > 127 {
				refused(t, "a high Domain", b, api.ErrArg)
				refused(t, "a high Domain, a byte missing", b[:len(b)-1], api.ErrShort)
				refused(t, "a high Domain, a byte more", append(bytes.Clone(b), 0), api.ErrTrail)
			}
		}
	}
}

// P6.2: each byte of a message of each kind, turned to each value.
func TestDecodeEachByte(t *testing.T) {
	for _, kind := range kinds {
		b := bytesOf(full(kind))
		for i := range b {
			was := b[i]
			for c := range 256 {
				b[i] = byte(c)
				holdDecode(t, b)
			}
			b[i] = was
		}
	}
}

// P6.2: bytes of all kinds and lengths, many of them those of a message.
func TestDecodeTries(t *testing.T) {
	x := uint32(1)
	next := func(n int) int {
		x = x*1664525 + 1013904223
		return int(x>>8) % n
	}
	for range 20000 {
		b := make([]byte, 18+next(40)*next(2)+next(8))
		for i := range b {
			b[i] = byte(next(256))
		}
		b[0], b[1] = byte(16+kinds[next(len(kinds))]), byte(next(140))
		if next(9) == 0 {
			b[0] = byte(next(40))
		}
		if b[0] == 16+ptp.Announce && len(b) > 30 {
			b[30] = byte(next(40))
			if next(2) == 0 {
				b[30] = byte((len(b) - 31) / 6)
			}
			if next(2) == 0 {
				b = b[:31+(len(b)-31)/6*6]
			}
		}
		for _, size := range []int{20, 36, 20, 36, 20} {
			if next(4) == 0 && len(b) > size {
				b = b[:size]
			}
		}
		holdDecode(t, b)
	}
}

// P6.1, P6.2: what is handed in stays as it is, with the room behind it, and shares nothing with what comes out.
func TestMemory(t *testing.T) {
	for _, kind := range kinds {
		m := full(kind)
		var room []int
		if kind == ptp.Announce {
			room = path(32)
			m.Path = room[:9]
		}
		b, err := ptp.Encode(m)
		other, _ := ptp.Encode(m)
		for i := range other {
			other[i]++
		}
		if err != api.OK || !bytes.Equal(b, bytesOf(m)) {
			t.Errorf("Encode of %s is %d, or its answers share some memory", told(m), err)
		}
		if m.Check() != api.OK || room != nil && !slices.Equal(room, path(32)) {
			t.Errorf("Check or Encode of %s changed its path", told(m))
		}
		bytesRoom := append(bytes.Clone(b), bytes.Repeat([]byte{9}, 100)...)
		was := bytes.Clone(bytesRoom)
		got, err := ptp.Decode(bytesRoom[:len(b)])
		more, _ := ptp.Decode(bytesRoom[:len(b)])
		for i := range got.Path {
			got.Path[i]++
		}
		if err != api.OK || !bytes.Equal(bytesRoom, was) {
			t.Errorf("Decode of %s is %d, or it changed its bytes", told(m), err)
		}
		for i := range bytesRoom {
			bytesRoom[i]++
		}
		if !same(more, m) {
			t.Errorf("Decode of %s answers what shares some memory", told(m))
		}
	}
}
