package ether_test

import (
	"bytes"
	"encoding/binary"
	"hash/crc32"
	"math"
	"strconv"
	"testing"

	"sandglass/api"
	"sandglass/ether"
)

const (
	most  = math.MaxInt
	least = math.MinInt
)

var (
	here  = api.Mac{1, 2, 3, 4, 5, 6}
	there = api.Mac{0xf6, 0xe5, 0xd4, 0xc3, 0xb2, 0xa1}
)

// closed is a text with its check behind it, by Go's own library.
func closed(text []byte) []byte {
	return binary.LittleEndian.AppendUint32(bytes.Clone(text), crc32.ChecksumIEEE(text))
}

// textOf is a right frame's bytes ahead of its check, word by word as the document says it.
func textOf(f ether.Frame) []byte {
	two := binary.BigEndian.AppendUint16
	b := append([]byte{}, f.Dst[:]...)
	b = append(b, f.Src[:]...)
	if f.Tagged {
		drop := 0
		if f.Drop {
			drop = 1
		}
		b = two(two(b, 0x8100), uint16(f.Prio*8192+drop*4096+f.Vid))
	}
	if f.Many {
		b = two(append(b, 0xf1, 0xc1, 0, 0), uint16(f.Seq))
	}
	b = two(two(b, uint16(f.Type)), uint16(len(f.Data)))
	b = append(b, f.Data...)
	return append(b, make([]byte, max(0, 60-len(b)))...)
}

// frameOf is the frame whose text this is, and whether it is one's: byte by byte, each where it must stand.
func frameOf(text []byte) (ether.Frame, bool) {
	two := func(at int) int { return int(text[at])*256 + int(text[at+1]) }
	f := ether.Frame{Dst: api.Mac(text[:6]), Src: api.Mac(text[6:12])}
	at := 12
	if two(at) == 0x8100 {
		f.Tagged = true
		f.Prio = two(at+2) / 8192
		f.Drop = two(at+2)/4096%2 == 1
		f.Vid = two(at+2) % 4096
		at += 4
	}
	if two(at) == 0xf1c1 {
		f.Many = true
		f.Seq = two(at + 4)
		if two(at+2) != 0 {
			return ether.Frame{}, false
		}
		at += 6
	}
	f.Type = two(at)
	n := two(at + 2)
	at += 4
	if f.Vid > 4094 || f.Type < 0x600 || f.Type == 0x8100 || f.Type == 0xf1c1 || len(text) != max(60, at+n) {
		return ether.Frame{}, false
	}
	f.Data = text[at : at+n]
	for _, c := range text[at+n:] {
		if c != 0 {
			return ether.Frame{}, false
		}
	}
	return f, true
}

func same(f, g ether.Frame) bool {
	return f.Dst == g.Dst && f.Src == g.Src && f.Tagged == g.Tagged && f.Vid == g.Vid && f.Prio == g.Prio && f.Drop == g.Drop &&
		f.Many == g.Many && f.Seq == g.Seq && f.Type == g.Type && bytes.Equal(f.Data, g.Data)
}

// data are so many bytes, none of them nought, no two runs alike.
func data(n int) []byte {
	b := make([]byte, n)
	for i := range b {
		b[i] = byte(1 + i*7%255)
	}
	return b
}

// head is how many bytes a frame has beside its data.
func head(f ether.Frame) int {
	n := 6 + 6 + 2 + 2 + 4
	if f.Tagged {
		n += 4
	}
	if f.Many {
		n += 6
	}
	return n
}

// heads are right frames without data: each number at its ends, and others.
func heads() []ether.Frame {
	var list []ether.Frame
	for _, kind := range []int{0x600, 0x601, 0x800, 0x801, 0x80ff, 0x8101, 0x88f7, 0xf1c0, 0xf1c2, 0x81c1, 0xf100, 0xc1f1, 0xfffe, 0xffff} {
		list = append(list, ether.Frame{Dst: here, Src: there, Type: kind}, ether.Frame{Src: here, Tagged: true, Many: true, Type: kind})
	}
	for _, vid := range []int{0, 1, 2, 255, 256, 2047, 2048, 4093, 4094} {
		for _, prio := range []int{0, 1, 4, 6, 7} {
			list = append(list, ether.Frame{Dst: there, Tagged: true, Vid: vid, Prio: prio, Type: 0x800}, ether.Frame{Dst: here, Src: there, Tagged: true, Vid: vid, Prio: prio, Drop: true, Many: true, Seq: vid, Type: 0x800})
		}
	}
	for _, seq := range []int{0, 1, 255, 256, 700, 32767, 32768, 65534, 65535} {
		list = append(list, ether.Frame{Dst: here, Src: there, Many: true, Seq: seq, Type: 0x800}, ether.Frame{Dst: here, Src: there, Tagged: true, Vid: 5, Prio: 6, Many: true, Seq: seq, Type: 0x88f7})
	}
	return append(list, ether.Frame{Type: 0x88f7}, ether.Frame{Dst: api.Mac{255, 255, 255, 255, 255, 255}, Src: api.Mac{0x81, 0, 0xf1, 0xc1, 0x81, 0}, Type: 0x600}, ether.Frame{Tagged: true, Type: 0x600}, ether.Frame{Many: true, Type: 0x600})
}

// frames are right frames: all heads, with data of lengths about all that matter.
func frames() []ether.Frame {
	var list []ether.Frame
	for i, f := range heads() {
		to64, to1600 := 64-head(f), 1600-head(f)
		for _, n := range []int{0, 1, 2, 5, to64 - 1, to64, to64 + 1, to64 + 2, 255, 256, 257, 1500, to1600 - 1, to1600} {
			if n > 300 && i%5 != 0 {
				continue
			}
			f.Data = data(n)
			list = append(list, f)
			f.Data = make([]byte, n)
			list = append(list, f)
		}
	}
	return list
}

// told is a frame in short.
func told(f ether.Frame) string {
	return "Tagged " + strconv.FormatBool(f.Tagged) + ", Vid " + strconv.Itoa(f.Vid) + ", Prio " + strconv.Itoa(f.Prio) + ", Drop " + strconv.FormatBool(f.Drop) +
		", Many " + strconv.FormatBool(f.Many) + ", Seq " + strconv.Itoa(f.Seq) + ", Type 0x" + strconv.FormatInt(int64(f.Type), 16) + ", data of " + strconv.Itoa(len(f.Data))
}

// wrongFrame is a frame that Check and Encode refuse, with the error that they name.
type wrongFrame struct {
	f   ether.Frame
	err api.Errno
}

// wrongFrames are frames with one fault: each number beyond its ends, what is set that has no bytes, types of tags, too many bytes.
func wrongFrames() []wrongFrame {
	var list []wrongFrame
	arg := func(f ether.Frame) { list = append(list, wrongFrame{f, api.ErrArg}) }
	for _, x := range []int{-1, -2, -4095, -65536, least, least + 1, 1 << 16, 1<<16 + 1, 1<<16 + 0x800, 1 << 32, 1<<32 + 1, 1 << 62, most} {
		arg(ether.Frame{Type: 0x800, Tagged: true, Vid: x})
		arg(ether.Frame{Type: 0x800, Tagged: true, Prio: x})
		arg(ether.Frame{Type: 0x800, Many: true, Seq: x})
		arg(ether.Frame{Type: 0x800, Tagged: true, Many: true, Seq: x})
		arg(ether.Frame{Type: x})
		arg(ether.Frame{Type: x, Tagged: true, Many: true})
		arg(ether.Frame{Type: 0x800, Vid: x})
		arg(ether.Frame{Type: 0x800, Prio: x})
		arg(ether.Frame{Type: 0x800, Seq: x})
	}
	for _, many := range []bool{false, true} {
		arg(ether.Frame{Type: 0x800, Tagged: true, Many: many, Vid: 4095})
		arg(ether.Frame{Type: 0x800, Tagged: true, Many: many, Vid: 4096})
		arg(ether.Frame{Type: 0x800, Tagged: true, Many: many, Prio: 8})
		arg(ether.Frame{Type: 0x800, Many: many, Vid: 1})
		arg(ether.Frame{Type: 0x800, Many: many, Vid: 4094})
		arg(ether.Frame{Type: 0x800, Many: many, Prio: 1})
		arg(ether.Frame{Type: 0x800, Many: many, Prio: 7})
		arg(ether.Frame{Type: 0x800, Many: many, Drop: true})
	}
	for _, tagged := range []bool{false, true} {
		arg(ether.Frame{Type: 0x800, Tagged: tagged, Seq: 1})
		arg(ether.Frame{Type: 0x800, Tagged: tagged, Seq: 65535})
		for _, kind := range []int{0, 1, 0x5fe, 0x5ff, 0x10000, 0x18100, 0x1f1c1} {
			arg(ether.Frame{Type: kind, Tagged: tagged})
			arg(ether.Frame{Type: kind, Tagged: tagged, Many: true})
		}
		for _, many := range []bool{false, true} {
			list = append(list, wrongFrame{ether.Frame{Type: 0x8100, Tagged: tagged, Many: many}, api.ErrKind}, wrongFrame{ether.Frame{Type: 0xf1c1, Tagged: tagged, Many: many}, api.ErrKind})
			f := ether.Frame{Dst: here, Type: 0x800, Tagged: tagged, Many: many}
			for _, beyond := range []int{1, 2, 500, 65536, 70000} {
				f.Data = data(1600 - head(f) + beyond)
				list = append(list, wrongFrame{f, api.ErrLong})
			}
		}
	}
	return list
}

// wrongMore are frames with several faults, and the error of the one that goes ahead.
func wrongMore() []wrongFrame {
	long := data(1600)
	return []wrongFrame{
		{ether.Frame{}, api.ErrArg},
		{ether.Frame{Type: 0x8100, Vid: 1}, api.ErrArg},
		{ether.Frame{Type: 0x8100, Prio: 1}, api.ErrArg},
		{ether.Frame{Type: 0xf1c1, Drop: true}, api.ErrArg},
		{ether.Frame{Type: 0xf1c1, Seq: 1}, api.ErrArg},
		{ether.Frame{Type: 0x8100, Tagged: true, Vid: 4095}, api.ErrArg},
		{ether.Frame{Type: 0x8100, Tagged: true, Prio: 8}, api.ErrArg},
		{ether.Frame{Type: 0xf1c1, Many: true, Seq: 65536}, api.ErrArg},
		{ether.Frame{Type: 0x5ff, Data: long}, api.ErrArg},
		{ether.Frame{Type: 0x10000, Data: long}, api.ErrArg},
		{ether.Frame{Type: 0x800, Vid: 1, Data: long}, api.ErrArg},
		{ether.Frame{Type: 0x800, Tagged: true, Vid: -1, Data: long}, api.ErrArg},
		{ether.Frame{Type: 0x800, Tagged: true, Prio: -1, Data: long}, api.ErrArg},
		{ether.Frame{Type: 0x800, Many: true, Seq: -1, Data: long}, api.ErrArg},
		{ether.Frame{Type: 0x800, Drop: true, Data: long}, api.ErrArg},
		{ether.Frame{Type: 0x800, Seq: 1, Data: long}, api.ErrArg},
		{ether.Frame{Type: 0x8100, Drop: true, Data: long}, api.ErrArg},
		{ether.Frame{Type: 0x8100, Data: long}, api.ErrKind},
		{ether.Frame{Type: 0xf1c1, Data: long}, api.ErrKind},
		{ether.Frame{Type: 0xf1c1, Tagged: true, Many: true, Vid: 1, Seq: 1, Data: long}, api.ErrKind},
	}
}

func TestConstants(t *testing.T) {
	if ether.Least != 64 || ether.TypeVlan != 0x8100 || ether.TypeTag != 0xf1c1 || ether.TypePtp != 0x88f7 {
		t.Error("constants:", ether.Least, ether.TypeVlan, ether.TypeTag, ether.TypePtp)
	}
}

// P5.1: what Check takes, how long that is, and its bytes.
func TestEncode(t *testing.T) {
	for _, f := range frames() {
		if err := f.Check(); err != api.OK {
			t.Errorf("Check of %s is %d", told(f), err)
		}
		want := closed(textOf(f))
		got, err := ether.Encode(f)
		if err != api.OK || !bytes.Equal(got, want) {
			t.Errorf("Encode of %s is %d, % x, not % x", told(f), err, got, want)
		}
		if size := f.Size(); size != len(want) {
			t.Errorf("Size of %s is %d, not %d", told(f), size, len(want))
		}
	}
}

// P5.1: to the letter, where each byte stands.
func TestEncodeEdges(t *testing.T) {
	nought := bytes.Repeat([]byte{0}, 60)
	for _, x := range []struct {
		f    ether.Frame
		text string
	}{
		{ether.Frame{Type: 0x88f7}, string(nought[:12]) + "\x88\xf7\x00\x00"},
		{ether.Frame{Dst: here, Src: there, Type: 0x800, Data: []byte("hello")}, "\x01\x02\x03\x04\x05\x06\xf6\xe5\xd4\xc3\xb2\xa1\x08\x00\x00\x05hello"},
		{ether.Frame{Dst: here, Src: there, Tagged: true, Vid: 0x123, Prio: 6, Type: 0x600}, "\x01\x02\x03\x04\x05\x06\xf6\xe5\xd4\xc3\xb2\xa1\x81\x00\xc1\x23\x06\x00\x00\x00"},
		{ether.Frame{Dst: here, Src: there, Tagged: true, Vid: 4094, Prio: 7, Drop: true, Type: 0xffff, Data: []byte{9}}, "\x01\x02\x03\x04\x05\x06\xf6\xe5\xd4\xc3\xb2\xa1\x81\x00\xff\xfe\xff\xff\x00\x01\x09"},
		{ether.Frame{Dst: here, Src: there, Many: true, Seq: 0x1234, Type: 0x800}, "\x01\x02\x03\x04\x05\x06\xf6\xe5\xd4\xc3\xb2\xa1\xf1\xc1\x00\x00\x12\x34\x08\x00\x00\x00"},
		{ether.Frame{Dst: here, Src: there, Tagged: true, Drop: true, Many: true, Seq: 65535, Type: 0x801, Data: []byte{0, 7, 0}}, "\x01\x02\x03\x04\x05\x06\xf6\xe5\xd4\xc3\xb2\xa1\x81\x00\x10\x00\xf1\xc1\x00\x00\xff\xff\x08\x01\x00\x03\x00\x07\x00"},
		{ether.Frame{Tagged: true, Many: true, Type: 0x800, Data: data(300)}, string(nought[:12]) + "\x81\x00\x00\x00\xf1\xc1\x00\x00\x00\x00\x08\x00\x01\x2c" + string(data(300))},
	} {
		text := []byte(x.text)
		text = append(text, nought[:max(0, 60-len(text))]...)
		if got, err := ether.Encode(x.f); err != api.OK || !bytes.Equal(got, closed(text)) {
			t.Errorf("Encode of %s is %d, % x, not % x", told(x.f), err, got, closed(text))
		}
	}
	got, err := ether.Encode(ether.Frame{Type: 0x88f7})
	if err != api.OK || len(got) != 64 || got[12] != 136 || got[13] != 247 {
		t.Errorf("Encode of the least frame is %d, % x", err, got)
	}
}

// P5.1: nil and empty data are one.
func TestNoData(t *testing.T) {
	for _, f := range heads() {
		f.Data = nil
		a, _ := ether.Encode(f)
		f.Data = []byte{}
		b, err := ether.Encode(f)
		if err != api.OK || f.Check() != api.OK || f.Size() != 64 || len(a) != 64 || !bytes.Equal(a, b) {
			t.Errorf("Encode of %s is % x, with empty data %d, % x", told(f), a, err, b)
		}
	}
}

// P5.1: what Check and Encode refuse, with one fault and with several.
func TestEncodeRefuses(t *testing.T) {
	for _, x := range append(wrongFrames(), wrongMore()...) {
		if err := x.f.Check(); err != x.err {
			t.Errorf("Check of %s is %d, not %d", told(x.f), err, x.err)
		}
		if b, err := ether.Encode(x.f); err != x.err || len(b) != 0 {
			t.Errorf("Encode of %s is %d bytes, %d, not %d", told(x.f), len(b), err, x.err)
		}
	}
}

// P5.1: Size about its least, and of frames that are too long, or not right.
func TestSize(t *testing.T) {
	for _, x := range []struct {
		f    ether.Frame
		want int
	}{
		{ether.Frame{}, 64},
		{ether.Frame{Data: data(43)}, 64}, {ether.Frame{Data: data(44)}, 64}, {ether.Frame{Data: data(45)}, 65},
		{ether.Frame{Tagged: true}, 64},
		{ether.Frame{Tagged: true, Data: data(39)}, 64}, {ether.Frame{Tagged: true, Data: data(40)}, 64}, {ether.Frame{Tagged: true, Data: data(41)}, 65},
		{ether.Frame{Many: true, Data: data(37)}, 64}, {ether.Frame{Many: true, Data: data(38)}, 64}, {ether.Frame{Many: true, Data: data(39)}, 65},
		{ether.Frame{Tagged: true, Many: true, Data: data(33)}, 64}, {ether.Frame{Tagged: true, Many: true, Data: data(34)}, 64}, {ether.Frame{Tagged: true, Many: true, Data: data(35)}, 65},
		{ether.Frame{Type: 0x800, Data: data(1580)}, 1600}, {ether.Frame{Type: 0x800, Data: data(1581)}, 1601},
		{ether.Frame{Tagged: true, Many: true, Data: data(1570)}, 1600}, {ether.Frame{Tagged: true, Many: true, Data: data(1571)}, 1601},
		{ether.Frame{Data: data(65536)}, 65556}, {ether.Frame{Tagged: true, Data: data(70000)}, 70024}, {ether.Frame{Many: true, Data: data(70000)}, 70026},
		{ether.Frame{Type: -1, Vid: -1, Prio: 9, Seq: -7, Drop: true, Data: data(100)}, 120},
	} {
		if got := x.f.Size(); got != x.want {
			t.Errorf("Size of %s is %d, not %d", told(x.f), got, x.want)
		}
	}
}
