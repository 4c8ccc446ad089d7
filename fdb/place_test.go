package fdb_test

import (
	"testing"

	"sandglass/api"
	"sandglass/fdb"
)

// holdSaid holds a SetPlace against its error.
func holdSaid(t *testing.T, x *fdb.Table, p fdb.Place, ports int, want api.Errno) {
	t.Helper()
	if err := x.SetPlace(p, ports); err != want {
		t.Errorf("SetPlace(%v, %d) is %d, not %d", p, ports, err, want)
	}
}

// holdLearn holds a Learn against its error.
func holdLearn(t *testing.T, x *fdb.Table, p fdb.Place, at, now int, want api.Errno) {
	t.Helper()
	if err := x.Learn(p, at, now); err != want {
		t.Errorf("Learn(%v, %d, %d) is %d, not %d", p, at, now, err, want)
	}
}

// holdAge holds an Age against how many it forgets, and how many are left.
func holdAge(t *testing.T, x *fdb.Table, since, gone, left int) {
	t.Helper()
	if got := x.Age(since); got != gone || x.Len() != left {
		t.Errorf("Age(%d) is %d, and leaves %d, not %d, %d", since, got, x.Len(), gone, left)
	}
}

// holdLen holds a table against how many addresses it knows.
func holdLen(t *testing.T, x *fdb.Table, want int) {
	t.Helper()
	if got := x.Len(); got != want {
		t.Errorf("Len is %d, not %d", got, want)
	}
}

// holdIs holds an address of VLAN 5, of a table with three ports of which all belong to it, against where it is; 7, if it isn't known.
func holdIs(t *testing.T, x *fdb.Table, p fdb.Place, ports int) {
	t.Helper()
	for at := range 3 {
		holdOut(t, x, at, p, ports&^(1<<at), 0)
	}
}

// P9.2: an address is where it was said last, for good, until it is said to be nowhere.
func TestSetPlace(t *testing.T) {
	x := withVlan(t, 3, 9, 0)
	a, b, group := in(5, 2), in(5, 4), fdb.Place{Vid: 5, Mac: api.Mac{1, 0x80}}
	for ports := 1; ports < 8; ports++ {
		holdSaid(t, x, a, ports, api.OK)
		holdIs(t, x, a, ports)
		holdLen(t, x, 1)
		holdSaid(t, x, group, ports, api.OK)
		holdIs(t, x, group, ports)
		holdSaid(t, x, group, 0, api.OK)
		holdIs(t, x, group, 7)
	}
	holdIs(t, x, b, 7)
	holdIs(t, x, in(5, 3), 7)
	holdAge(t, x, most, 0, 1)
	for at := range 3 {
		x.Flush(at)
	}
	holdIs(t, x, a, 7)
	holdLen(t, x, 1)
	holdSaid(t, x, a, 1, api.OK)
	holdSaid(t, x, b, 2, api.OK)
	holdLen(t, x, 2)
	holdSaid(t, x, a, 0, api.OK)
	holdIs(t, x, a, 7)
	holdIs(t, x, b, 2)
	holdLen(t, x, 1)
}

// P9.2: an address may be said in a VLAN that has no port yet, and is another one in another VLAN.
func TestVlansApart(t *testing.T) {
	x := newTable(t, 3, 9)
	for vid, ports := range map[int]int{1: 1, 5: 2, 4094: 4} {
		holdSaid(t, x, in(vid, 2), ports, api.OK)
	}
	holdLearn(t, x, in(6, 2), 2, 0, api.OK)
	holdLen(t, x, 4)
	for _, vid := range []int{1, 5, 6, 7, 4094} {
		holdVlan(t, x, vid, fdb.Vlan{Ports: 7, Bare: 7}, api.OK)
	}
	for vid, ports := range map[int]int{1: 1, 5: 2, 6: 4, 7: 7, 4094: 4} {
		for at := range 3 {
			holdOut(t, x, at, in(vid, 2), ports&^(1<<at), ports&^(1<<at))
		}
	}
	// Of a VLAN that has no port any more the addresses stay known.
	holdVlan(t, x, 5, fdb.Vlan{}, api.OK)
	holdLen(t, x, 4)
	holdOut(t, x, 0, in(5, 2), 0, 0)
	holdVlan(t, x, 5, fdb.Vlan{Ports: 7}, api.OK)
	holdOut(t, x, 0, in(5, 2), 2, 0)
}

// P9.2: an address differs from another one by any bit.
func TestMacsApart(t *testing.T) {
	x := withVlan(t, 3, 50, 0)
	var macs []api.Mac
	for i := range 6 {
		for bit := range 8 {
			m := api.Mac{2, 4, 8, 16, 32, 64}
			m[i] ^= 1 << bit
			macs = append(macs, m)
		}
	}
	for i, m := range macs {
		holdSaid(t, x, fdb.Place{Vid: 5, Mac: m}, 1<<(i%3), api.OK)
		holdLen(t, x, i+1)
	}
	for i, m := range macs {
		holdIs(t, x, fdb.Place{Vid: 5, Mac: m}, 1<<(i%3))
	}
	holdIs(t, x, fdb.Place{Vid: 5, Mac: api.Mac{2, 4, 8, 16, 32, 64}}, 7)
}

// P9.2: with no port an address isn't known, whether it was said, or seen, or neither, or there is no room.
func TestNowhere(t *testing.T) {
	x := withVlan(t, 3, 2, 0)
	a, b, c := in(5, 2), in(5, 4), in(5, 6)
	holdSaid(t, x, a, 0, api.OK)
	holdLen(t, x, 0)
	holdSaid(t, x, a, 1, api.OK)
	holdLearn(t, x, b, 1, 5, api.OK)
	holdSaid(t, x, c, 0, api.OK)
	holdLen(t, x, 2)
	holdSaid(t, x, b, 0, api.OK)
	holdIs(t, x, b, 7)
	holdLen(t, x, 1)
	holdAge(t, x, most, 0, 1)
	holdSaid(t, x, a, 0, api.OK)
	holdIs(t, x, a, 7)
	holdLen(t, x, 0)
	// It may be seen, and said, once more.
	holdLearn(t, x, a, 2, 5, api.OK)
	holdIs(t, x, a, 4)
	holdSaid(t, x, b, 2, api.OK)
	holdIs(t, x, b, 2)
	holdAge(t, x, 6, 1, 1)

	none := withVlan(t, 3, 0, 0)
	holdSaid(t, none, a, 0, api.OK)
	holdSaid(t, none, a, 1, api.ErrFull)
	holdLearn(t, none, a, 1, 0, api.ErrFull)
	holdLen(t, none, 0)
}

// P9.2: what SetPlace refuses changes nothing.
func TestSetPlaceWrong(t *testing.T) {
	x := withVlan(t, 3, 1, 0)
	holdLearn(t, x, in(5, 2), 1, 5, api.OK)
	refused := func(p fdb.Place, ports int, want api.Errno) {
		t.Helper()
		holdKept(t, x, "SetPlace", want, func() api.Errno { return x.SetPlace(p, ports) })
	}
	for _, vid := range wrongVids() {
		for _, ports := range []int{0, 1, 7, 8, -1} {
			refused(in(vid, 2), ports, api.ErrArg)
		}
	}
	for _, ports := range wrongSets(3) {
		refused(in(5, 2), ports, api.ErrArg)
		refused(in(5, 4), ports, api.ErrArg)
	}
	refused(in(5, 4), 1, api.ErrFull)
	refused(in(6, 2), 7, api.ErrFull)
	holdAge(t, x, 5, 0, 1)
	holdAge(t, x, 6, 1, 0)
	for n := 1; n <= 8; n++ {
		y := newTable(t, n, 300)
		for ports := range 1 << n {
			holdSaid(t, y, fdb.Place{Vid: 4094, Mac: api.Mac{0, byte(ports)}}, ports, api.OK)
		}
		holdLen(t, y, 1<<n-1)
		for _, ports := range wrongSets(n) {
			holdSaid(t, y, in(1, 2), ports, api.ErrArg)
		}
	}
}

// P9.2: an address is at the port at which it was seen last, and there alone.
func TestLearn(t *testing.T) {
	x := withVlan(t, 3, 9, 0)
	a := in(5, 2)
	for _, at := range []int{0, 1, 2, 2, 0, 2, 1} {
		holdLearn(t, x, a, at, 5, api.OK)
		holdIs(t, x, a, 1<<at)
		holdLen(t, x, 1)
	}
	holdLearn(t, x, in(4094, 2), 0, least, api.OK)
	holdLearn(t, x, in(1, 2), 0, most, api.OK)
	holdLen(t, x, 3)
	for n := 1; n <= 8; n++ {
		y := newTable(t, n, 9)
		for at := -2; at < 10; at++ {
			want := api.ErrPort
			if at >= 0 && at < n {
				want = api.OK
			}
			holdLearn(t, y, in(5, 2), at, 0, want)
		}
	}
}

// P9.2: what Learn refuses changes nothing, neither where it was seen nor when; errors in their order.
func TestLearnWrong(t *testing.T) {
	x := withVlan(t, 3, 1, 0)
	holdLearn(t, x, in(5, 2), 1, 5, api.OK)
	refused := func(p fdb.Place, at, now int, want api.Errno) {
		t.Helper()
		holdKept(t, x, "Learn", want, func() api.Errno { return x.Learn(p, at, now) })
	}
	group := fdb.Place{Vid: 5, Mac: api.Mac{1}}
	for _, vid := range wrongVids() {
		refused(in(vid, 2), 1, 9, api.ErrArg)
		refused(in(vid, 2), 3, 9, api.ErrArg)
		refused(fdb.Place{Vid: vid, Mac: group.Mac}, 1, 9, api.ErrArg)
		refused(fdb.Place{Vid: vid, Mac: group.Mac}, -1, 9, api.ErrArg)
	}
	for _, at := range []int{-1, 3, 8, 64, -64, 1<<32 + 1, most, least} {
		refused(in(5, 2), at, 9, api.ErrPort)
		refused(in(5, 4), at, 9, api.ErrPort)
		refused(group, at, 9, api.ErrPort)
	}
	for _, m := range []api.Mac{{1}, {0xff, 0xff, 0xff, 0xff, 0xff, 0xff}, {3}, {0x81, 2}, {1, 0x80, 0xc2, 0, 0, 0x0e}} {
		refused(fdb.Place{Vid: 5, Mac: m}, 1, 9, api.ErrKind)
	}
	refused(in(5, 4), 1, 9, api.ErrFull)
	refused(in(6, 2), 1, 9, api.ErrFull)
	holdAge(t, x, 5, 0, 1)
	holdAge(t, x, 6, 1, 0)
	// The lowest bit of the first byte alone tells that an address is one of several places.
	for _, m := range []api.Mac{{}, {2}, {0xfe, 0xff, 0xff, 0xff, 0xff, 0xff}, {0, 1, 1, 1, 1, 1}} {
		holdLearn(t, x, fdb.Place{Vid: 5, Mac: m}, 1, 9, api.OK)
		holdAge(t, x, 10, 1, 0)
	}
	// An address of several places that is there for good isn't to be seen either.
	holdSaid(t, x, group, 2, api.OK)
	refused(group, 1, 9, api.ErrKind)
}

// P9.2: one that is there for good stays where it is, wherever it is seen.
func TestSaidThenSeen(t *testing.T) {
	x := withVlan(t, 3, 2, 0)
	a := in(5, 2)
	holdSaid(t, x, a, 6, api.OK)
	for at := range 3 {
		holdKept(t, x, "Learn of what is there for good", api.OK, func() api.Errno { return x.Learn(a, at, 5) })
		holdIs(t, x, a, 6)
	}
	holdLearn(t, x, a, 3, 5, api.ErrPort)
	holdAge(t, x, most, 0, 1)
	x.Flush(0)
	x.Flush(1)
	holdIs(t, x, a, 6)
	// Likewise in a table that is full.
	holdSaid(t, x, in(5, 4), 1, api.OK)
	holdLearn(t, x, a, 0, 5, api.OK)
	holdLearn(t, x, in(5, 4), 2, 5, api.OK)
	holdLen(t, x, 2)
	holdIs(t, x, a, 6)
}

// P9.2: one that was seen and is then said is there for good, also in a table that is full.
func TestSeenThenSaid(t *testing.T) {
	for _, room := range []int{1, 2} {
		x := withVlan(t, 3, room, 0)
		a := in(5, 2)
		holdLearn(t, x, a, 0, 5, api.OK)
		holdSaid(t, x, a, 6, api.OK)
		holdIs(t, x, a, 6)
		holdLen(t, x, 1)
		holdAge(t, x, most, 0, 1)
		x.Flush(0)
		holdIs(t, x, a, 6)
		holdSaid(t, x, a, 0, api.OK)
		holdIs(t, x, a, 7)
		holdLen(t, x, 0)
	}
}

// P9.2: there is room for so many addresses, said and seen, and not for the one behind them.
func TestRoom(t *testing.T) {
	place := func(i int) fdb.Place { return fdb.Place{Vid: 5, Mac: api.Mac{0, byte(i >> 8), byte(i)}} }
	for _, room := range []int{0, 1, 2, 3, 255, 256, 4095, 4096} {
		x := withVlan(t, 3, room, 0)
		for i := range room {
			if i%3 == 0 {
				holdSaid(t, x, place(i), 6, api.OK)
			} else {
				holdLearn(t, x, place(i), i%3, i, api.OK)
			}
			holdLen(t, x, i+1)
		}
		for range 3 {
			holdSaid(t, x, place(room), 6, api.ErrFull)
			holdLearn(t, x, place(room), 1, 9, api.ErrFull)
			holdIs(t, x, place(room), 7)
			holdLen(t, x, room)
		}
		if room < 3 {
			continue
		}
		// Of those that are known more may be told; one that goes makes room for one.
		holdLearn(t, x, place(1), 0, 1, api.OK)
		holdIs(t, x, place(1), 1)
		holdSaid(t, x, place(2), 3, api.OK)
		holdSaid(t, x, place(0), 3, api.OK)
		holdSaid(t, x, place(0), 0, api.OK)
		holdLearn(t, x, place(room), 1, 9, api.OK)
		holdLearn(t, x, place(0), 1, 9, api.ErrFull)
		holdAge(t, x, 2, 1, room-1)
		holdSaid(t, x, place(1), 4, api.OK)
		holdLen(t, x, room)
	}
}

// P9.2: those that were seen last ahead of a time are forgotten; one that was seen at just that time isn't.
func TestAge(t *testing.T) {
	x := withVlan(t, 3, 20, 0)
	for i, now := range []int{3, 5, 5, 6, -7, 0, least, most, 1 << 40} {
		holdLearn(t, x, in(5, byte(2*i)), i%3, now, api.OK)
	}
	holdSaid(t, x, in(5, 100), 1, api.OK)
	holdAge(t, x, least, 0, 10)
	holdAge(t, x, least+1, 1, 9)
	holdAge(t, x, -7, 0, 9)
	holdAge(t, x, -6, 1, 8)
	holdAge(t, x, 0, 0, 8)
	holdAge(t, x, 5, 2, 6)
	holdIs(t, x, in(5, 2), 2)
	holdIs(t, x, in(5, 0), 7)
	holdAge(t, x, 5, 0, 6)
	holdAge(t, x, 6, 2, 4)
	holdIs(t, x, in(5, 2), 7)
	holdIs(t, x, in(5, 6), 1)
	// Seen once more: that time counts, be it later or earlier.
	holdLearn(t, x, in(5, 6), 1, 9, api.OK)
	holdAge(t, x, 9, 0, 4)
	holdLearn(t, x, in(5, 6), 1, 4, api.OK)
	holdAge(t, x, 5, 1, 3)
	holdAge(t, x, least, 0, 3)
	holdAge(t, x, 1<<40, 0, 3)
	holdAge(t, x, most, 1, 2)
	holdAge(t, x, most, 0, 2)
	holdIs(t, x, in(5, 14), 2)
	holdIs(t, x, in(5, 100), 1)
}

// P9.2: what was seen at a port is forgotten, nothing else.
func TestFlush(t *testing.T) {
	x := withVlan(t, 3, 20, 0)
	fill := func() {
		for i := range 9 {
			holdLearn(t, x, in(5, byte(2*i)), i/3, i, api.OK)
		}
		holdLen(t, x, 11)
	}
	holdSaid(t, x, in(5, 100), 2, api.OK)
	holdSaid(t, x, in(5, 102), 7, api.OK)
	for at := range 3 {
		fill()
		for _, none := range []int{-1, 3, 8, 63, 64, -64, most, least} {
			x.Flush(none)
			holdLen(t, x, 11)
		}
		for range 2 { // the second time nothing was seen there
			x.Flush(at)
			holdLen(t, x, 8)
		}
		for i := range 9 {
			want := 1 << (i / 3)
			if i/3 == at {
				want = 7
			}
			holdIs(t, x, in(5, byte(2*i)), want)
		}
		holdIs(t, x, in(5, 100), 2)
		holdIs(t, x, in(5, 102), 7)
	}
	// One that was seen at another port since isn't at the first one any more.
	fill()
	holdLearn(t, x, in(5, 0), 2, 0, api.OK)
	x.Flush(0)
	holdLen(t, x, 9)
	holdIs(t, x, in(5, 0), 4)
	x.Flush(2)
	holdLen(t, x, 5)
}
