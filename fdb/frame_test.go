package fdb_test

import (
	"testing"

	"sandglass/api"
	"sandglass/fdb"
)

// mixed is a table with four ports, each of another VLAN, that make of priorities what no other one does.
func mixed(t *testing.T) *fdb.Table {
	t.Helper()
	x := newTable(t, 4, 9)
	holdVlan(t, x, 1, fdb.Vlan{Ports: 3, Bare: 3}, api.OK)
	holdVlan(t, x, 5, fdb.Vlan{Ports: 14, Bare: 4}, api.OK)
	holdVlan(t, x, 4094, fdb.Vlan{Ports: 9, Bare: 8}, api.OK)
	holdPort(t, x, 1, fdb.Port{Vid: 5, Prio: [8]int{7, 6, 5, 4, 3, 2, 1, 0}}, api.OK)
	holdPort(t, x, 2, fdb.Port{Vid: 4094, Prio: [8]int{2, 2, 2, 2, 5, 5, 5, 5}}, api.OK)
	holdPort(t, x, 3, fdb.Port{Vid: 4094, Prio: [8]int{1, 2, 3, 4, 5, 6, 7, 0}}, api.OK)
	return x
}

// P9.3: the VLAN is the port's of a frame without a tag or with VLAN 0, else the frame's; the priority what the port makes of it, of 0 without a tag.
func TestIn(t *testing.T) {
	x := mixed(t)
	for _, c := range []struct {
		f         frame
		vid, prio int
	}{
		{frame{0, false, 0, 0}, 1, 0}, {frame{0, false, 0, 7}, 1, 0}, {frame{0, true, 0, 7}, 1, 7}, {frame{0, true, 1, 3}, 1, 3}, {frame{0, true, 4094, 3}, 4094, 3},
		{frame{1, false, 0, 0}, 5, 7}, {frame{1, false, 0, 7}, 5, 7}, {frame{1, true, 0, 7}, 5, 0}, {frame{1, true, 0, 0}, 5, 7}, {frame{1, true, 5, 1}, 5, 6}, {frame{1, true, 1, 1}, 1, 6},
		{frame{2, true, 5, 0}, 5, 2}, {frame{2, true, 5, 4}, 5, 5},
		{frame{3, false, 0, 6}, 4094, 1}, {frame{3, true, 0, 6}, 4094, 7}, {frame{3, true, 5, 6}, 5, 7}, {frame{3, true, 4094, 7}, 4094, 0},
		// What a frame without a tag is said to have counts for nothing.
		{frame{0, false, 5, 3}, 1, 0}, {frame{1, false, 1, 3}, 5, 7}, {frame{3, false, 4000, 3}, 4094, 1},
	} {
		holdIn(t, x, c.f, c.vid, c.prio)
	}
	for prio := range 8 {
		holdIn(t, x, frame{1, true, 5, prio}, 5, 7-prio)
		holdIn(t, x, frame{1, true, 0, prio}, 5, 7-prio)
		holdIn(t, x, frame{1, false, 0, prio}, 5, 7)
	}
}

// P9.3: a frame of a VLAN to which the port doesn't belong is ErrVlan, be it the port's own one.
func TestInVlan(t *testing.T) {
	x := mixed(t)
	for _, f := range []frame{
		{0, true, 5, 0}, {1, true, 4094, 7}, {2, true, 1, 0}, {3, true, 1, 3}, {0, true, 2, 0}, {3, true, 4093, 0},
		{2, false, 0, 0}, {2, true, 0, 0}, {2, true, 4094, 0}, {2, false, 5, 0},
	} {
		holdNoIn(t, x, f, api.ErrVlan)
	}
	// Where addresses are has no part in it.
	holdSaid(t, x, in(5, 2), 1, api.OK)
	holdNoIn(t, x, frame{0, true, 5, 0}, api.ErrVlan)
}

// P9.3: wrong numbers, in the order of their errors, with a tag and without.
func TestInWrong(t *testing.T) {
	x := mixed(t)
	for _, tagged := range []bool{false, true} {
		for _, vid := range []int{-1, 4095, 4096, 1<<32 + 5, most, least} {
			for _, at := range []int{0, 1, 4, -1} {
				holdNoIn(t, x, frame{at, tagged, vid, 0}, api.ErrArg)
				holdNoIn(t, x, frame{at, tagged, vid, 8}, api.ErrArg)
			}
		}
		for _, prio := range []int{-1, 8, 9, 64, 1<<32 + 1, most, least} {
			for _, at := range []int{0, 1, 2, 4, -1} {
				holdNoIn(t, x, frame{at, tagged, 5, prio}, api.ErrArg)
			}
		}
		for _, at := range []int{-1, 4, 8, 63, 64, -64, 1<<32 + 1, most, least} {
			for _, vid := range []int{0, 1, 5, 4094} {
				holdNoIn(t, x, frame{at, tagged, vid, 0}, api.ErrPort)
				holdNoIn(t, x, frame{at, tagged, vid, 7}, api.ErrPort)
			}
		}
	}
}

// P9.3: a frame goes out at the ports of its VLAN, but never where it came in.
func TestOut(t *testing.T) {
	x := mixed(t)
	for _, c := range []struct{ at, vid, ports, bare int }{
		{0, 1, 2, 2}, {1, 1, 1, 1}, {0, 5, 14, 4}, {1, 5, 12, 4}, {2, 5, 10, 0}, {3, 5, 6, 4}, {0, 4094, 8, 8}, {3, 4094, 1, 0},
		// At port 2, which isn't of VLAN 1, a frame of it may be asked for, too.
		{2, 1, 3, 3}, {3, 1, 3, 3}, {1, 4094, 9, 8},
		{0, 2, 0, 0}, {0, 4093, 0, 0}, {0, 0, 0, 0}, {0, -1, 0, 0}, {0, 4095, 0, 0}, {0, most, 0, 0}, {0, least, 0, 0},
	} {
		holdOut(t, x, c.at, in(c.vid, 2), c.ports, c.bare)
		holdOut(t, x, c.at, fdb.Place{Vid: c.vid, Mac: api.Mac{1}}, c.ports, c.bare)
	}
}

// P9.3: at a port that isn't there nothing goes out, be the address known or not.
func TestOutWrong(t *testing.T) {
	x := mixed(t)
	holdSaid(t, x, in(5, 2), 14, api.OK)
	holdLearn(t, x, in(5, 4), 1, 0, api.OK)
	for _, at := range []int{-1, 4, 5, 7, 8, 63, 64, -64, 1 << 32, most, least} {
		for first := range 6 {
			holdOut(t, x, at, in(5, byte(first)), 0, 0)
			holdOut(t, x, at, in(1, byte(first)), 0, 0)
		}
	}
}

// P9.3: a frame to a known address goes out at the ports of the VLAN at which it is, and at none beside them.
func TestOutKnown(t *testing.T) {
	x := mixed(t)
	a, b, group := in(5, 2), in(5, 4), fdb.Place{Vid: 5, Mac: api.Mac{1}}
	for ports := 1; ports < 16; ports++ {
		holdSaid(t, x, a, ports, api.OK)
		holdSaid(t, x, group, ports, api.OK)
		for at := range 4 {
			want := ports & 14 &^ (1 << at)
			holdOut(t, x, at, a, want, want&4)
			holdOut(t, x, at, group, want, want&4)
			holdOut(t, x, at, in(5, 6), 14&^(1<<at), 4&^(1<<at))
		}
	}
	for seen := range 4 {
		holdLearn(t, x, b, seen, 0, api.OK)
		for at := range 4 {
			want := 1 << seen & 14 &^ (1 << at)
			holdOut(t, x, at, b, want, want&4)
		}
	}
	// At the very port at which it is a frame goes nowhere.
	holdLearn(t, x, b, 3, 0, api.OK)
	holdOut(t, x, 3, b, 0, 0)
	holdSaid(t, x, a, 4, api.OK)
	holdOut(t, x, 2, a, 0, 0)
	// Nor does it at a port that doesn't belong to the VLAN.
	holdSaid(t, x, a, 1, api.OK)
	holdOut(t, x, 3, a, 0, 0)
}

// P9.1, P9.2, P9.3: the chapter's example.
func TestExample(t *testing.T) {
	x := newTable(t, 3, 9)
	holdVlan(t, x, 5, fdb.Vlan{Ports: 7, Bare: 4}, api.OK)
	holdOut(t, x, 0, in(5, 2), 6, 4)
	holdLearn(t, x, in(5, 2), 1, 0, api.OK)
	holdOut(t, x, 0, in(5, 2), 2, 0)
}
