package ptp_test

import (
	"bytes"
	"math"
	"slices"
	"strconv"
	"testing"

	"sandglass/api"
	"sandglass/ptp"
	"sandglass/rate"
	"sandglass/stamp"
)

const (
	most   = math.MaxInt
	least  = math.MinInt
	mostId = 1<<48 - 1
)

var kinds = []int{0, 2, 3, 8, 10, 11}

// part is a number of a message: in how many bytes it stands, its greatest value (-1: any of 64 bits), the kinds that have it.
type part struct {
	name  string
	size  int
	most  int
	of    []int
	value func(m *ptp.Msg) (int, func(int))
}

// parts are all numbers of messages but Kind and the Path's, each kind's in the order in which they stand.
func parts() []part {
	all, answers, follow, announce := kinds, []int{3, 10}, []int{8}, []int{11}
	number := func(at func(m *ptp.Msg) *int) func(m *ptp.Msg) (int, func(int)) {
		return func(m *ptp.Msg) (int, func(int)) { return *at(m), func(x int) { *at(m) = x } }
	}
	time := func(at func(m *ptp.Msg) *stamp.Stamp) func(m *ptp.Msg) (int, func(int)) {
		return func(m *ptp.Msg) (int, func(int)) { return int(*at(m)), func(x int) { *at(m) = stamp.Stamp(x) } }
	}
	return []part{
		{"Domain", 1, 127, all, number(func(m *ptp.Msg) *int { return &m.Domain })},
		{"Seq", 2, 65535, all, number(func(m *ptp.Msg) *int { return &m.Seq })},
		{"Src", 6, mostId, all, number(func(m *ptp.Msg) *int { return &m.Src })},
		{"Port", 2, 65535, all, number(func(m *ptp.Msg) *int { return &m.Port })},
		{"Corr", 8, -1, all, time(func(m *ptp.Msg) *stamp.Stamp { return &m.Corr })},
		{"Time", 8, -1, append(answers, 8), time(func(m *ptp.Msg) *stamp.Stamp { return &m.Time })},
		{"To", 6, mostId, answers, number(func(m *ptp.Msg) *int { return &m.To })},
		{"ToPort", 2, 65535, answers, number(func(m *ptp.Msg) *int { return &m.ToPort })},
		{"Rate", 8, -1, follow, func(m *ptp.Msg) (int, func(int)) {
			return int(m.Rate), func(x int) { m.Rate = rate.Rate(x) }
		}},
		{"Best.One", 1, 255, announce, number(func(m *ptp.Msg) *int { return &m.Best.One })},
		{"Best.Class", 1, 255, announce, number(func(m *ptp.Msg) *int { return &m.Best.Class })},
		{"Best.Two", 1, 255, announce, number(func(m *ptp.Msg) *int { return &m.Best.Two })},
		{"Best.Id", 6, mostId, announce, number(func(m *ptp.Msg) *int { return &m.Best.Id })},
		{"Steps", 1, 255, announce, number(func(m *ptp.Msg) *int { return &m.Steps })},
	}
}

// with is a message with one of its numbers set.
func (p part) with(m ptp.Msg, x int) ptp.Msg {
	_, set := p.value(&m)
	set(x)
	return m
}

// in is the number of a message.
func (p part) in(m ptp.Msg) int {
	x, _ := p.value(&m)
	return x
}

func (p part) isOf(kind int) bool { return slices.Contains(p.of, kind) }

// fits tells whether a message of a kind may have this value.
func (p part) fits(kind, x int) bool {
	return x == 0 || p.isOf(kind) && (p.most < 0 || x >= 0 && x <= p.most)
}

// laid is a number in so many bytes, the highest first.
func laid(x, size int) []byte {
	b := make([]byte, size)
	for i := range b {
		b[size-1-i] = byte(uint64(x) >> (8 * i))
	}
	return b
}

// bytesOf is a right message's bytes, word by word as the document says it.
func bytesOf(m ptp.Msg) []byte {
	b := []byte{byte(16 + m.Kind)}
	for _, p := range parts() {
		if p.isOf(m.Kind) {
			b = append(b, laid(p.in(m), p.size)...)
		}
	}
	if m.Kind == ptp.Announce {
		b = append(b, byte(len(m.Path)))
		for _, x := range m.Path {
			b = append(b, laid(x, 6)...)
		}
	}
	return b
}

// num is bytes as a number of 64 bits, the first the highest.
func num(b []byte) int {
	x := uint64(0)
	for _, c := range b {
		x = x*256 + uint64(c)
	}
	return int(x)
}

// msgOf is the message of bytes, or the error, one asked behind the other as the document names them.
func msgOf(b []byte) (ptp.Msg, api.Errno) {
	if len(b) < 20 {
		return ptp.Msg{}, api.ErrShort
	}
	if b[0] < 16 || b[0] > 31 {
		return ptp.Msg{}, api.ErrForm
	}
	m := ptp.Msg{Kind: int(b[0]) - 16}
	if !slices.Contains(kinds, m.Kind) {
		return ptp.Msg{}, api.ErrKind
	}
	size := map[int]int{0: 20, 2: 20, 3: 36, 8: 36, 10: 36, 11: 31}[m.Kind]
	if m.Kind == 11 && len(b) >= 31 {
		if b[30] > 32 {
			return ptp.Msg{}, api.ErrMany
		}
		size += 6 * int(b[30])
	}
	if len(b) < size {
		return ptp.Msg{}, api.ErrShort
	}
	if len(b) > size {
		return ptp.Msg{}, api.ErrTrail
	}
	if b[1] > 127 {
		return ptp.Msg{}, api.ErrArg
	}
	at := 1
	for _, p := range parts() {
		if p.isOf(m.Kind) {
			m = p.with(m, num(b[at:at+p.size]))
			at += p.size
		}
	}
	for at = 31; m.Kind == 11 && at < size; at += 6 {
		m.Path = append(m.Path, num(b[at:at+6]))
	}
	return m, api.OK
}

func same(m, n ptp.Msg) bool {
	if m.Kind != n.Kind || !slices.Equal(m.Path, n.Path) {
		return false
	}
	for _, p := range parts() {
		if p.in(m) != p.in(n) {
			return false
		}
	}
	return true
}

// told is a message in short.
func told(m ptp.Msg) string {
	s := "kind " + strconv.Itoa(m.Kind)
	for _, p := range parts() {
		if x := p.in(m); x != 0 {
			s += ", " + p.name + " " + strconv.Itoa(x)
		}
	}
	return s + ", a path of " + strconv.Itoa(len(m.Path))
}

// path is so many clocks, the first and the last at the ends of what they may be.
func path(n int) []int {
	list := make([]int, n)
	for i := range list {
		list[i] = 0x0a0b0c0d0e00 + i
	}
	if n > 1 {
		list[0], list[n-1] = 0, mostId
	}
	return list
}

// full is a message of a kind that has all that it may have, no two numbers alike.
func full(kind int) ptp.Msg {
	m := ptp.Msg{Kind: kind}
	for i, p := range parts() {
		if p.isOf(kind) {
			m = p.with(m, num([]byte{1, 2, 3, 4, 5, 6, 7, 8}[8-p.size:])+16*i)
		}
	}
	if kind == ptp.Announce {
		m.Path = path(5)
	}
	return m
}

// values are those about which a number ceases to be right, and others.
func values(p part) []int {
	list := []int{0, 1, 2, -1, -2, 127, 128, 255, 256, 65535, 65536, 1 << 31, 1 << 32, 1<<32 + 1, mostId - 1, mostId, mostId + 1, 1 << 56, 1 << 62, most - 1, most, least, least + 1, -255, -256, -65536, -1 << 48, -1 << 56}
	if p.most >= 0 {
		list = append(list, p.most-1, p.most, p.most+1, p.most+2, 2*p.most+1, p.most/2, -p.most)
	}
	return list
}

// messages are right ones: of each kind with nothing, with all, with each number at its ends, with paths of all lengths.
func messages() []ptp.Msg {
	var list []ptp.Msg
	for _, kind := range kinds {
		for _, m := range []ptp.Msg{{Kind: kind}, full(kind)} {
			list = append(list, m)
			for _, p := range parts() {
				for _, x := range values(p) {
					if p.fits(kind, x) {
						list = append(list, p.with(m, x))
					}
				}
			}
		}
	}
	for n := range 33 {
		m := full(ptp.Announce)
		m.Path = path(n)
		list = append(list, m, ptp.Msg{Kind: ptp.Announce, Path: make([]int, n)}, ptp.Msg{Kind: ptp.Announce, Steps: 255, Path: slices.Repeat([]int{mostId}, n)})
	}
	return list
}

func TestConstants(t *testing.T) {
	if ptp.Req != 2 || ptp.Sync != 0 || ptp.Resp != 3 || ptp.Follow != 8 || ptp.RespMore != 10 || ptp.Announce != 11 || ptp.MostPath != 32 {
		t.Error("constants:", ptp.Req, ptp.Sync, ptp.Resp, ptp.Follow, ptp.RespMore, ptp.Announce, ptp.MostPath)
	}
}

// P6.1: what is right, and its bytes.
func TestEncode(t *testing.T) {
	for _, m := range messages() {
		if err := m.Check(); err != api.OK {
			t.Errorf("Check of %s is %d", told(m), err)
		}
		if got, err := ptp.Encode(m); err != api.OK || !bytes.Equal(got, bytesOf(m)) {
			t.Errorf("Encode of %s is %d, % x, not % x", told(m), err, got, bytesOf(m))
		}
	}
}

// P6.1: to the letter, where each byte of each kind stands.
func TestEncodeEdges(t *testing.T) {
	for _, x := range []struct {
		m    ptp.Msg
		want string
	}{
		{ptp.Msg{Kind: ptp.Sync, Seq: 1, Src: 5, Port: 2}, "\x10\x00\x00\x01\x00\x00\x00\x00\x00\x05\x00\x02\x00\x00\x00\x00\x00\x00\x00\x00"},
		{ptp.Msg{Kind: ptp.Req, Domain: 127, Seq: 65535, Src: mostId, Port: 65535, Corr: -5}, "\x12\x7f\xff\xff\xff\xff\xff\xff\xff\xff\xff\xff\xff\xff\xff\xff\xff\xff\xff\xfb"},
		{ptp.Msg{Kind: ptp.Resp, Domain: 1, Seq: 0x203, Src: 0x40506070809, Port: 0xa0b, Corr: 0xc0d0e0f10111213, Time: 0x1415161718191a1b, To: 0x1c1d1e1f2021, ToPort: 0x2223}, "\x13\x01\x02\x03\x04\x05\x06\x07\x08\x09\x0a\x0b\x0c\x0d\x0e\x0f\x10\x11\x12\x13\x14\x15\x16\x17\x18\x19\x1a\x1b\x1c\x1d\x1e\x1f\x20\x21\x22\x23"},
		{ptp.Msg{Kind: ptp.RespMore, Corr: least, Time: -1, To: 7, ToPort: 8}, "\x1a\x00\x00\x00\x00\x00\x00\x00\x00\x00\x00\x00\x80\x00\x00\x00\x00\x00\x00\x00\xff\xff\xff\xff\xff\xff\xff\xff\x00\x00\x00\x00\x00\x07\x00\x08"},
		{ptp.Msg{Kind: ptp.Follow, Corr: most, Time: least, Rate: rate.One}, "\x18\x00\x00\x00\x00\x00\x00\x00\x00\x00\x00\x00\x7f\xff\xff\xff\xff\xff\xff\xff\x80\x00\x00\x00\x00\x00\x00\x00\x00\x00\x02\x00\x00\x00\x00\x00"},
		{ptp.Msg{Kind: ptp.Follow, Time: 1, Rate: -2}, "\x18\x00\x00\x00\x00\x00\x00\x00\x00\x00\x00\x00\x00\x00\x00\x00\x00\x00\x00\x00\x00\x00\x00\x00\x00\x00\x00\x01\xff\xff\xff\xff\xff\xff\xff\xfe"},
		{ptp.Msg{Kind: ptp.Announce, Best: ptp.Prior{One: 1, Class: 2, Two: 3, Id: 0x40506070809}, Steps: 10}, "\x1b\x00\x00\x00\x00\x00\x00\x00\x00\x00\x00\x00\x00\x00\x00\x00\x00\x00\x00\x00\x01\x02\x03\x04\x05\x06\x07\x08\x09\x0a\x00"},
		{ptp.Msg{Kind: ptp.Announce, Seq: 256, Best: ptp.Prior{One: 255, Class: 255, Two: 255, Id: mostId}, Steps: 255, Path: []int{1, 0x20304050607, mostId}}, "\x1b\x00\x01\x00\x00\x00\x00\x00\x00\x00\x00\x00\x00\x00\x00\x00\x00\x00\x00\x00\xff\xff\xff\xff\xff\xff\xff\xff\xff\xff\x03\x00\x00\x00\x00\x00\x01\x02\x03\x04\x05\x06\x07\xff\xff\xff\xff\xff\xff"},
	} {
		if got, err := ptp.Encode(x.m); err != api.OK || string(got) != x.want {
			t.Errorf("Encode of %s is %d, % x, not % x", told(x.m), err, got, x.want)
		}
	}
}

// holdRefused tells that Check and Encode don't refuse a message as they must.
func holdRefused(t *testing.T, m ptp.Msg, want api.Errno) {
	t.Helper()
	if err := m.Check(); err != want {
		t.Errorf("Check of %s is %d, not %d", told(m), err, want)
	}
	if b, err := ptp.Encode(m); err != want || len(b) != 0 {
		t.Errorf("Encode of %s is %d, not %d, and % x", told(m), err, want, b)
	}
}

// P6.1: other kinds, whatever else is wrong.
func TestCheckKind(t *testing.T) {
	for _, kind := range []int{1, 4, 5, 6, 7, 9, 12, 13, 14, 15, 16, 18, 27, 256, 258, 1 << 32, 1<<32 + 2, most, -1, -2, -5, -14, -16, least} {
		holdRefused(t, ptp.Msg{Kind: kind}, api.ErrKind)
		for _, p := range parts() {
			holdRefused(t, p.with(ptp.Msg{Kind: kind}, -1), api.ErrKind)
			holdRefused(t, p.with(ptp.Msg{Kind: kind}, 1), api.ErrKind)
		}
		holdRefused(t, ptp.Msg{Kind: kind, Path: path(33)}, api.ErrKind)
		holdRefused(t, ptp.Msg{Kind: kind, Path: []int{-1}}, api.ErrKind)
	}
}

// P6.1: each number of each kind at its ends and beyond, and each that the kind has no bytes for.
func TestCheckNumbers(t *testing.T) {
	for _, kind := range kinds {
		for _, p := range parts() {
			for _, x := range values(p) {
				if !p.fits(kind, x) {
					holdRefused(t, p.with(ptp.Msg{Kind: kind}, x), api.ErrArg)
					holdRefused(t, p.with(full(kind), x), api.ErrArg)
				}
			}
		}
	}
}

// P6.1: a path of another kind than Announce; no path may be empty, too.
func TestCheckPathOfOthers(t *testing.T) {
	for _, kind := range kinds {
		m := full(kind)
		m.Path = []int{}
		if got, err := ptp.Encode(m); err != api.OK || m.Check() != api.OK || !bytes.Equal(got, bytesOf(m)) {
			t.Errorf("Encode of %s, an empty one, is %d, % x", told(m), err, got)
		}
		if kind == ptp.Announce {
			continue
		}
		for _, list := range [][]int{{0}, {1}, {-1}, {mostId + 1}, path(2), path(32), path(33), make([]int, 33), make([]int, 300)} {
			holdRefused(t, ptp.Msg{Kind: kind, Path: list}, api.ErrArg)
			m.Path = list
			holdRefused(t, m, api.ErrArg)
		}
	}
}

// P6.1: paths that are too long, and clocks in them that are none.
func TestCheckPath(t *testing.T) {
	for _, n := range []int{33, 34, 64, 255, 256, 257, 288, 1000} {
		holdRefused(t, ptp.Msg{Kind: ptp.Announce, Path: path(n)}, api.ErrMany)
		holdRefused(t, ptp.Msg{Kind: ptp.Announce, Path: make([]int, n)}, api.ErrMany)
	}
	for _, n := range []int{1, 2, 3, 31, 32} {
		for at := range n {
			for _, x := range []int{-1, -2, mostId + 1, mostId + 2, 1 << 56, most, least} {
				m := full(ptp.Announce)
				m.Path = path(n)
				m.Path[at] = x
				holdRefused(t, m, api.ErrArg)
			}
		}
	}
}

// P6.1: of several faults the one that is named first.
func TestCheckOrder(t *testing.T) {
	bad := path(33)
	bad[0], bad[32] = -1, mostId+1
	for _, p := range parts() {
		for _, x := range []int{-1, mostId + 1} {
			m := p.with(ptp.Msg{Kind: ptp.Announce, Path: bad}, x)
			if p.fits(ptp.Announce, x) {
				holdRefused(t, m, api.ErrMany)
			} else {
				holdRefused(t, m, api.ErrArg)
			}
		}
	}
	for _, x := range []struct {
		m    ptp.Msg
		want api.Errno
	}{
		{ptp.Msg{Kind: ptp.Announce, Path: bad}, api.ErrMany},
		{ptp.Msg{Kind: ptp.Announce, Path: slices.Repeat([]int{-1}, 33)}, api.ErrMany},
		{ptp.Msg{Kind: ptp.Announce, Path: slices.Repeat([]int{-1}, 32)}, api.ErrArg},
		{ptp.Msg{Kind: ptp.Announce, Domain: 128, Path: path(33)}, api.ErrArg},
		{ptp.Msg{Kind: ptp.Announce, Steps: 256, Path: path(33)}, api.ErrArg},
		{ptp.Msg{Kind: ptp.Announce, Time: 1, Path: path(33)}, api.ErrArg},
		{ptp.Msg{Kind: ptp.Announce, To: 1, Path: path(33)}, api.ErrArg},
		{ptp.Msg{Kind: ptp.Announce, ToPort: 1, Path: path(33)}, api.ErrArg},
		{ptp.Msg{Kind: ptp.Announce, Rate: 1, Path: path(33)}, api.ErrArg},
		{ptp.Msg{Kind: 1, Domain: 128, Path: bad}, api.ErrKind},
		{ptp.Msg{Kind: 16, Seq: -1, Path: bad}, api.ErrKind},
	} {
		holdRefused(t, x.m, x.want)
	}
}
