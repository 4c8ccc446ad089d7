package fdb_test

import (
	"math"
	"slices"
	"testing"

	"sandglass/api"
	"sandglass/fdb"
)

const (
	most  = math.MaxInt
	least = math.MinInt
)

// wrongVids are numbers that no VLAN has.
func wrongVids() []int {
	return []int{0, -1, 4095, 4096, 1 << 16, 1<<32 + 5, most, least}
}

// wrongSets are numbers that are no set of the ports of a table that has n.
func wrongSets(n int) []int {
	return []int{1 << n, 1<<n | 1, 1 << 62, 1<<32 | 1, 1<<n + 1<<n - 1, -1, -2, -1 << n, most, least}
}

// same are priorities that stay.
func same() [8]int { return [8]int{0, 1, 2, 3, 4, 5, 6, 7} }

// in is an address in a VLAN, of one place.
func in(vid int, first byte) fdb.Place {
	return fdb.Place{Vid: vid, Mac: api.Mac{first &^ 1, 0, 0, 0, 0, first}}
}

// newTable is a table that must be there.
func newTable(t *testing.T, n, room int) *fdb.Table {
	t.Helper()
	x, err := fdb.New(n, room)
	if err != api.OK || x == nil {
		t.Fatalf("New(%d, %d) is a table: %v, %d", n, room, x != nil, err)
	}
	return x
}

// withVlan is a table with n ports of which all belong to VLAN 5, the set bare without a tag.
func withVlan(t *testing.T, n, room, bare int) *fdb.Table {
	t.Helper()
	x := newTable(t, n, room)
	holdVlan(t, x, 5, fdb.Vlan{Ports: 1<<n - 1, Bare: bare}, api.OK)
	return x
}

// holdVlan holds a SetVlan against its error.
func holdVlan(t *testing.T, x *fdb.Table, vid int, v fdb.Vlan, want api.Errno) {
	t.Helper()
	if err := x.SetVlan(vid, v); err != want {
		t.Errorf("SetVlan(%d, %v) is %d, not %d", vid, v, err, want)
	}
}

// holdPort holds a SetPort against its error.
func holdPort(t *testing.T, x *fdb.Table, at int, p fdb.Port, want api.Errno) {
	t.Helper()
	if err := x.SetPort(at, p); err != want {
		t.Errorf("SetPort(%d, %v) is %d, not %d", at, p, err, want)
	}
}

// holdOut holds an Out against its two sets.
func holdOut(t *testing.T, x *fdb.Table, at int, p fdb.Place, ports, bare int) {
	t.Helper()
	if got, gotBare := x.Out(at, p); got != ports || gotBare != bare {
		t.Errorf("Out(%d, %v) is %d, %d, not %d, %d", at, p, got, gotBare, ports, bare)
	}
}

// holdIn holds an In against the VLAN and the priority.
func holdIn(t *testing.T, x *fdb.Table, f frame, vid, prio int) {
	t.Helper()
	if v, p, err := x.In(f.at, f.tagged, f.vid, f.prio); v != vid || p != prio || err != api.OK {
		t.Errorf("In(%v) is %d, %d, %d, not %d, %d", f, v, p, err, vid, prio)
	}
}

// holdNoIn holds an In against its error.
func holdNoIn(t *testing.T, x *fdb.Table, f frame, want api.Errno) {
	t.Helper()
	if v, p, err := x.In(f.at, f.tagged, f.vid, f.prio); v != 0 || p != 0 || err != want {
		t.Errorf("In(%v) is %d, %d, %d, not %d", f, v, p, err, want)
	}
}

// frame is what comes in.
type frame struct {
	at     int
	tagged bool
	vid    int
	prio   int
}

// state is all that a table tells without a change.
func state(x *fdb.Table) []int {
	told := []int{x.Len()}
	for at := -1; at <= 8; at++ {
		for _, vid := range []int{0, 1, 2, 5, 6, 4093, 4094} {
			for prio := range 8 {
				for _, tagged := range []bool{false, true} {
					v, p, err := x.In(at, tagged, vid, prio)
					told = append(told, v, p, int(err))
				}
			}
			for first := range 16 {
				ports, bare := x.Out(at, in(vid, byte(first)))
				told = append(told, ports, bare)
			}
		}
	}
	return told
}

// holdKept holds a call that must be refused against that it changes nothing.
func holdKept(t *testing.T, x *fdb.Table, what string, want api.Errno, call func() api.Errno) {
	t.Helper()
	was := state(x)
	if err := call(); err != want {
		t.Errorf("%s is %d, not %d", what, err, want)
	}
	if !slices.Equal(state(x), was) {
		t.Errorf("%s has changed the table", what)
	}
}

// P9.1: how many ports and how much room there may be.
func TestNew(t *testing.T) {
	for _, x := range []struct {
		n, room int
		want    api.Errno
	}{
		{1, 0, api.OK}, {1, 4096, api.OK}, {8, 0, api.OK}, {8, 4096, api.OK}, {3, 9, api.OK}, {7, 4095, api.OK}, {2, 1, api.OK},
		{0, 9, api.ErrArg}, {9, 9, api.ErrArg}, {-1, 9, api.ErrArg}, {most, 9, api.ErrArg}, {least, 9, api.ErrArg}, {1<<32 + 3, 9, api.ErrArg},
		{3, -1, api.ErrArg}, {3, 4097, api.ErrArg}, {3, most, api.ErrArg}, {3, least, api.ErrArg}, {3, 1<<32 + 9, api.ErrArg},
		{0, -1, api.ErrArg}, {9, 4097, api.ErrArg}, {0, 0, api.ErrArg},
	} {
		table, err := fdb.New(x.n, x.room)
		if err != x.want || (table != nil) != (x.want == api.OK) {
			t.Errorf("New(%d, %d) is a table: %v, %d, not %d", x.n, x.room, table != nil, err, x.want)
		}
	}
}

// P9.1: in a new table no VLAN has a port, no address is known, and ports are of VLAN 1 and leave priorities as they are.
func TestNewIsEmpty(t *testing.T) {
	for n := 1; n <= 8; n++ {
		x := newTable(t, n, 7)
		if x.Len() != 0 {
			t.Error("Len of a new one is", x.Len())
		}
		for vid := 0; vid <= 4095; vid++ {
			holdOut(t, x, 0, in(vid, 2), 0, 0)
			if vid <= 4094 {
				holdNoIn(t, x, frame{n - 1, true, vid, 0}, api.ErrVlan)
			}
		}
		for at := range n {
			holdNoIn(t, x, frame{at, false, 0, 0}, api.ErrVlan)
		}
		holdVlan(t, x, 1, fdb.Vlan{Ports: 1<<n - 1}, api.OK)
		for at := range n {
			holdIn(t, x, frame{at, false, 0, 5}, 1, 0)
			for prio := range 8 {
				holdIn(t, x, frame{at, true, 1, prio}, 1, prio)
				holdIn(t, x, frame{at, true, 0, prio}, 1, prio)
			}
		}
		holdNoIn(t, x, frame{n, false, 0, 0}, api.ErrPort)
	}
}

// P9.1: a VLAN has the ports that were said last; others stay.
func TestSetVlan(t *testing.T) {
	x := newTable(t, 3, 9)
	for _, vid := range []int{1, 2, 5, 100, 4093, 4094} {
		holdVlan(t, x, vid, fdb.Vlan{Ports: 7, Bare: 4}, api.OK)
		holdOut(t, x, 0, in(vid, 2), 6, 4)
	}
	holdVlan(t, x, 5, fdb.Vlan{Ports: 3, Bare: 3}, api.OK)
	holdOut(t, x, 0, in(5, 2), 2, 2)
	holdOut(t, x, 2, in(5, 2), 3, 3)
	holdOut(t, x, 0, in(2, 2), 6, 4)
	holdVlan(t, x, 5, fdb.Vlan{Ports: 6}, api.OK)
	holdOut(t, x, 1, in(5, 2), 4, 0)
	holdVlan(t, x, 5, fdb.Vlan{}, api.OK)
	holdOut(t, x, 1, in(5, 2), 0, 0)
	holdNoIn(t, x, frame{1, true, 5, 0}, api.ErrVlan)
	holdVlan(t, x, 5, fdb.Vlan{}, api.OK)
	holdOut(t, x, 0, in(4094, 2), 6, 4)
	holdVlan(t, x, 5, fdb.Vlan{Ports: 5, Bare: 1}, api.OK)
	holdOut(t, x, 1, in(5, 2), 5, 1)
}

// P9.1: all sets of ports that there are, and those of a port that isn't there; Bare is some of Ports.
func TestSetVlanSets(t *testing.T) {
	for n := 1; n <= 8; n++ {
		x := newTable(t, n, 0)
		for ports := range 1 << n {
			bare := ports & 0b10110101
			holdVlan(t, x, 9, fdb.Vlan{Ports: ports, Bare: bare}, api.OK)
			for at := range n {
				holdOut(t, x, at, in(9, 2), ports&^(1<<at), bare&^(1<<at))
			}
		}
		for _, ports := range wrongSets(n) {
			holdVlan(t, x, 9, fdb.Vlan{Ports: ports}, api.ErrArg)
			holdVlan(t, x, 9, fdb.Vlan{Ports: ports, Bare: ports}, api.ErrArg)
			holdVlan(t, x, 9, fdb.Vlan{Ports: 1, Bare: ports}, api.ErrArg)
			holdVlan(t, x, 9, fdb.Vlan{Bare: ports}, api.ErrArg)
		}
	}
	x := newTable(t, 3, 0)
	for ports := range 8 {
		for bare := range 8 {
			want := api.OK
			if bare|ports != ports {
				want = api.ErrArg
			}
			holdVlan(t, x, 9, fdb.Vlan{Ports: ports, Bare: bare}, want)
		}
	}
}

// P9.1: what SetVlan refuses changes nothing.
func TestSetVlanWrong(t *testing.T) {
	x := withVlan(t, 3, 9, 4)
	for _, vid := range wrongVids() {
		for _, v := range []fdb.Vlan{{Ports: 7, Bare: 4}, {Ports: 8}, {}} {
			holdKept(t, x, "SetVlan of a VLAN that can't be", api.ErrArg, func() api.Errno { return x.SetVlan(vid, v) })
		}
	}
	for _, v := range []fdb.Vlan{{Ports: 8}, {Ports: 1, Bare: 2}, {Bare: 1}, {Ports: 3, Bare: -1}, {Ports: -1}, {Ports: 7, Bare: 8}} {
		holdKept(t, x, "SetVlan of wrong ports", api.ErrArg, func() api.Errno { return x.SetVlan(5, v) })
		holdKept(t, x, "SetVlan of wrong ports", api.ErrArg, func() api.Errno { return x.SetVlan(6, v) })
	}
}

// P9.1: a port has the VLAN and the priorities that were said last; others stay.
func TestSetPort(t *testing.T) {
	x := newTable(t, 3, 0)
	for _, vid := range []int{1, 2, 5, 4094} {
		holdVlan(t, x, vid, fdb.Vlan{Ports: 7}, api.OK)
	}
	for _, p := range []fdb.Port{
		{5, [8]int{3, 3, 3, 3, 2, 2, 1, 1}}, {2, [8]int{7, 6, 5, 4, 3, 2, 1, 0}}, {1, [8]int{}}, {4094, [8]int{7, 7, 7, 7, 7, 7, 7, 7}}, {1, same()},
	} {
		holdPort(t, x, 1, p, api.OK)
		for prio := range 8 {
			holdIn(t, x, frame{1, true, 5, prio}, 5, p.Prio[prio])
			holdIn(t, x, frame{1, true, 0, prio}, p.Vid, p.Prio[prio])
			holdIn(t, x, frame{1, false, 5, prio}, p.Vid, p.Prio[0])
			holdIn(t, x, frame{0, true, 0, prio}, 1, prio)
			holdIn(t, x, frame{2, true, 5, prio}, 5, prio)
		}
	}
	for n := 1; n <= 8; n++ {
		y := newTable(t, n, 0)
		for at := -2; at < 10; at++ {
			want := api.ErrPort
			if at >= 0 && at < n {
				want = api.OK
			}
			holdPort(t, y, at, fdb.Port{Vid: 1}, want)
		}
	}
}

// P9.1: what SetPort refuses changes nothing; that there is no port goes ahead of all else.
func TestSetPortWrong(t *testing.T) {
	x := withVlan(t, 3, 9, 4)
	holdPort(t, x, 1, fdb.Port{Vid: 5, Prio: [8]int{3, 3, 3, 3, 2, 2, 1, 1}}, api.OK)
	refused := func(at int, p fdb.Port, want api.Errno) {
		t.Helper()
		holdKept(t, x, "SetPort", want, func() api.Errno { return x.SetPort(at, p) })
	}
	for i := range 8 {
		for _, prio := range []int{-1, 8, 9, 255, 1<<32 + 1, most, least} {
			p := fdb.Port{Vid: 5, Prio: same()}
			p.Prio[i] = prio
			refused(1, p, api.ErrArg)
			refused(3, p, api.ErrPort)
			p.Vid = 0
			refused(1, p, api.ErrArg)
		}
	}
	for _, vid := range wrongVids() {
		refused(1, fdb.Port{Vid: vid, Prio: same()}, api.ErrArg)
		refused(-1, fdb.Port{Vid: vid, Prio: same()}, api.ErrPort)
	}
	for _, at := range []int{-1, 3, 8, 64, -64, 1<<32 + 1, most, least} {
		refused(at, fdb.Port{Vid: 5, Prio: same()}, api.ErrPort)
		refused(at, fdb.Port{}, api.ErrPort)
	}
	for _, prio := range []int{0, 7} {
		p := fdb.Port{Vid: 4094, Prio: same()}
		p.Prio[3] = prio
		holdPort(t, x, 1, p, api.OK)
	}
}

// P9.1: all calls of a nil table are ErrArg, or nothing, whatever they are given.
func TestNil(t *testing.T) {
	var x *fdb.Table
	for _, n := range []int{0, 1, -1, 5, most, least} {
		holdVlan(t, x, n, fdb.Vlan{Ports: n, Bare: n}, api.ErrArg)
		holdVlan(t, x, 5, fdb.Vlan{}, api.ErrArg)
		holdPort(t, x, n, fdb.Port{Vid: 1}, api.ErrArg)
		holdPort(t, x, n, fdb.Port{}, api.ErrArg)
		for _, p := range []fdb.Place{in(5, 2), in(0, 2), {Vid: 5, Mac: api.Mac{1}}} {
			holdSaid(t, x, p, n, api.ErrArg)
			holdLearn(t, x, p, n, n, api.ErrArg)
			holdOut(t, x, n, p, 0, 0)
		}
		holdNoIn(t, x, frame{n, true, 5, 0}, api.ErrArg)
		holdNoIn(t, x, frame{0, false, 0, n}, api.ErrArg)
		holdAge(t, x, n, 0, 0)
		x.Flush(n)
	}
}

// P9.1: a table that New didn't make has no ports, and no call of it panics.
func TestNotNew(t *testing.T) {
	var x fdb.Table
	holdVlan(t, &x, 5, fdb.Vlan{Ports: 1}, api.ErrArg)
	x.SetVlan(5, fdb.Vlan{})
	holdPort(t, &x, 0, fdb.Port{Vid: 1}, api.ErrPort)
	holdSaid(t, &x, in(5, 2), 1, api.ErrArg)
	x.SetPlace(in(5, 2), 0)
	holdLearn(t, &x, in(5, 2), 0, 0, api.ErrPort)
	holdNoIn(t, &x, frame{0, true, 5, 0}, api.ErrPort)
	holdOut(t, &x, 0, in(5, 2), 0, 0)
	holdAge(t, &x, 1, 0, 0)
	x.Flush(0)
}

// P9.1: two tables never meet.
func TestTwo(t *testing.T) {
	x, y := withVlan(t, 3, 9, 4), newTable(t, 3, 9)
	was := state(y)
	holdPort(t, x, 1, fdb.Port{Vid: 5, Prio: [8]int{}}, api.OK)
	holdSaid(t, x, in(5, 2), 4, api.OK)
	holdLearn(t, x, in(5, 4), 1, 9, api.OK)
	if !slices.Equal(state(y), was) {
		t.Error("what one table was told, another one tells")
	}
}
