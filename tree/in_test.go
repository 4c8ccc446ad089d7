package tree_test

import (
	"slices"
	"testing"

	"sandglass/api"
	"sandglass/best"
	"sandglass/ptp"
	"sandglass/rate"
)

// ids is so many clocks' Ids, from 1000 on, with others at some places.
func ids(count int, others map[int]int) []int {
	list := make([]int, count)
	for i := range list {
		list[i] = 1000 + i
		if id, ok := others[i]; ok {
			list[i] = id
		}
	}
	return list
}

// changed is a message that is changed.
func changed(m ptp.Msg, change func(m *ptp.Msg)) ptp.Msg {
	m.Path = slices.Clone(m.Path)
	change(&m)
	return m
}

// wrongs are messages that aren't right Announces of domain 3.
func wrongs() []ptp.Msg {
	m := announce(root, 0, 99, 1, 99)
	list := []ptp.Msg{{}, {Kind: ptp.Announce}}
	for _, kind := range []int{ptp.Req, ptp.Sync, ptp.Resp, ptp.Follow, ptp.RespMore} {
		list = append(list,
			ptp.Msg{Kind: kind, Domain: 3, Seq: 1, Src: 99, Port: 1},
			changed(m, func(m *ptp.Msg) { m.Kind = kind }))
	}
	for _, kind := range []int{-1, 1, 4, 7, 9, 12, 16, 27, least, most} {
		list = append(list, changed(m, func(m *ptp.Msg) { m.Kind = kind }))
	}
	for _, domain := range []int{0, 2, 4, 127, 128, 131, 259, -1, -3, least, most} {
		list = append(list, changed(m, func(m *ptp.Msg) { m.Domain = domain }))
	}
	for _, change := range []func(m *ptp.Msg){
		func(m *ptp.Msg) { m.Seq = -1 }, func(m *ptp.Msg) { m.Seq = 65536 },
		func(m *ptp.Msg) { m.Src = -1 }, func(m *ptp.Msg) { m.Src = mostId + 1 },
		func(m *ptp.Msg) { m.Port = -1 }, func(m *ptp.Msg) { m.Port = 65536 },
		func(m *ptp.Msg) { m.Time = 1 }, func(m *ptp.Msg) { m.To = 1 }, func(m *ptp.Msg) { m.ToPort = 1 },
		func(m *ptp.Msg) { m.Rate = rate.One },
		func(m *ptp.Msg) { m.Best.One = -1 }, func(m *ptp.Msg) { m.Best.One = 256 },
		func(m *ptp.Msg) { m.Best.Class = -1 }, func(m *ptp.Msg) { m.Best.Class = 256 },
		func(m *ptp.Msg) { m.Best.Two = -1 }, func(m *ptp.Msg) { m.Best.Two = 256 },
		func(m *ptp.Msg) { m.Best.Id = -1 }, func(m *ptp.Msg) { m.Best.Id = mostId + 1 },
		func(m *ptp.Msg) { m.Steps = -1 }, func(m *ptp.Msg) { m.Steps = 256 }, func(m *ptp.Msg) { m.Steps = most },
		func(m *ptp.Msg) { m.Path = ids(33, nil) }, func(m *ptp.Msg) { m.Path = ids(40, nil) },
		func(m *ptp.Msg) { m.Path = []int{99, -1} }, func(m *ptp.Msg) { m.Path = []int{mostId + 1, 99} },
	} {
		list = append(list, changed(m, change))
	}
	return list
}

// comeRounds are right ones that a clock with Id 50 doesn't take.
func comeRounds() []ptp.Msg {
	return []ptp.Msg{
		announce(root, 0, 50, 1), announce(root, 0, 50, 1, 99), announce(root, 0, 50, 1, 50),
		announce(root, 1, 99, 1, 50), announce(root, 1, 99, 1, 50, 99), announce(root, 1, 99, 1, 99, 50), announce(root, 2, 99, 1, 7, 50, 99),
		announce(root, 9, 99, 1, ids(31, map[int]int{0: 50})...), announce(root, 9, 99, 1, ids(31, map[int]int{30: 50})...),
		announce(root, 9, 99, 1, ids(31, map[int]int{15: 50})...), announce(worse, 0, 50, 1), announce(own, 0, 50, 1, 50),
		announce(root, 255, 99, 1), announce(root, 255, 99, 1, 99), announce(worse, 255, 99, 1, 99), announce(root, 255, 50, 1, 50),
		announce(root, 0, 99, 1, ids(32, nil)...), announce(worse, 9, 99, 1, ids(32, nil)...),
		announce(root, 255, 50, 1, ids(32, map[int]int{31: 50})...),
	}
}

// P20.2: a message of another kind, of another domain, or that isn't right; nothing is changed.
func TestInWrong(t *testing.T) {
	m := announce(root, 2, 99, 1, 7, 99)
	for _, wrong := range wrongs() {
		x := linked(t, 2)
		holdIn(t, x, 1, wrong, 0, api.ErrKind)
		holdBest(t, x, 0, self, master, master)
		holdIn(t, x, 1, m, 0, api.OK)
		holdIn(t, x, 1, wrong, 50, api.ErrKind)
		holdBest(t, x, 100, from(m, 1), master, slave)
		holdBest(t, x, 101, self, master, master)
		holdOut(t, x, 0, 4, 100, announceOf(4, 0, root, 3, 7, 99, 50))
	}
}

// P20.2: what came round, or from the own clock, or went too far; nothing is changed.
func TestInOrder(t *testing.T) {
	m := announce(root, 2, 99, 1, 7, 99)
	for _, order := range comeRounds() {
		if order.Check() != api.OK {
			t.Fatalf("%+v isn't right", order)
		}
		x := linked(t, 2)
		holdIn(t, x, 1, order, 0, api.ErrOrder)
		holdBest(t, x, 0, self, master, master)
		holdIn(t, x, 1, m, 0, api.OK)
		holdIn(t, x, 1, order, 50, api.ErrOrder)
		holdBest(t, x, 100, from(m, 1), master, slave)
		holdBest(t, x, 101, self, master, master)
		holdOut(t, x, 0, 4, 100, announceOf(4, 0, root, 3, 7, 99, 50))
	}
}

// P20.2: at no port, and at one whose link is gone; nothing is changed.
func TestInPort(t *testing.T) {
	m, n := announce(root, 2, 99, 1, 7, 99), announce(root, 0, 98, 0, 98)
	x := linked(t, 3)
	holdIn(t, x, 1, m, 0, api.OK)
	for _, at := range append([]int{3, 4, 7}, places...) {
		holdIn(t, x, at, n, 0, api.ErrPort)
	}
	x.Up(2, false)
	holdIn(t, x, 2, n, 0, api.ErrPort)
	holdBest(t, x, 0, from(m, 1), master, slave, off)
	x.Up(2, true)
	holdBest(t, x, 0, from(m, 1), master, slave, master)
	x.Up(1, false)
	holdIn(t, x, 1, m, 0, api.ErrPort)
	x.Up(1, true)
	holdBest(t, x, 0, self, master, master, master)
}

// P20.2: where more than one error could be: ErrKind ahead of ErrPort, that ahead of ErrOrder.
func TestInFirst(t *testing.T) {
	x := linked(t, 3)
	x.Up(1, false)
	for _, at := range append([]int{0, 1, 3}, places...) {
		for _, wrong := range wrongs() {
			holdIn(t, x, at, wrong, 0, api.ErrKind)
		}
		for _, order := range comeRounds() {
			want := api.ErrPort
			if at == 0 {
				want = api.ErrOrder
			}
			holdIn(t, x, at, order, 0, want)
			order.Domain = 4
			holdIn(t, x, at, order, 0, api.ErrKind)
			order.Domain, order.Corr, order.ToPort = 3, 5, 1
			holdIn(t, x, at, order, 0, api.ErrKind)
		}
	}
	// A path that is too long isn't right; so are 256 steps.
	holdIn(t, x, 1, announce(root, 255, 50, 1, ids(33, map[int]int{0: 50})...), 0, api.ErrKind)
	holdIn(t, x, 0, announce(root, 256, 50, 1, 50), 0, api.ErrKind)
	holdBest(t, x, 0, self, master, off, master)
}

// P20.2: Steps and a Path that just may be, and other numbers at their ends.
func TestInEnds(t *testing.T) {
	ends := ptp.Prior{One: 0, Class: 255, Two: 255, Id: mostId}
	for _, m := range []ptp.Msg{
		announce(root, 254, 99, 1, 99), announce(root, 0, 99, 1), announce(root, 253, 99, 1),
		announce(root, 0, 99, 1, ids(31, nil)...), announce(root, 254, 99, 1, ids(31, nil)...), announce(root, 30, 99, 1, ids(30, nil)...),
		announce(root, 3, 0, 0, 0, mostId), announce(root, 3, mostId, 65535, mostId, 0), announce(ends, 3, 99, 1, 99),
		announce(root, 3, 49, 1, 49, 51), announce(root, 1, 99, 1, 99, 99),
		// The best clock isn't in Path, nor is Src.
		announce(root, 3, 98, 1, 7, 8),
		changed(announce(root, 3, 99, 1, 99), func(m *ptp.Msg) { m.Seq, m.Corr = 65535, -1 }),
		changed(announce(root, 3, 99, 1, 99), func(m *ptp.Msg) { m.Seq, m.Corr = 0, most }),
		// A better clock with the own Id, but neither from the own one nor by it.
		announce(ptp.Prior{One: 4, Id: 50}, 3, 99, 1, 99),
	} {
		x := linked(t, 2)
		holdIn(t, x, 1, m, 0, api.OK)
		holdBest(t, x, 0, from(m, 1), master, slave)
		path := append(slices.Clone(m.Path), 50)
		holdOut(t, x, 0, 4, 100, announceOf(4, 0, m.Best, m.Steps+1, path...))
		holdNoOut(t, x, 1, 4, 100)
	}
}

// P20.2: what comes later stands in the place of what was heard: also what is worse, as good, or is no clock better than the own one.
func TestInReplaced(t *testing.T) {
	list := []ptp.Msg{
		announce(root, 2, 99, 1, 7, 99), announce(root, 3, 99, 1, 7, 8, 99), announce(root, 1, 99, 1, 7), announce(root, 2, 98, 1, 98),
		announce(root, 2, 99, 2, 99), announce(ptp.Prior{One: 4}, 9, 99, 1, 99), announce(ptp.Prior{}, 200, 99, 1, 99),
		announce(worse, 0, 99, 1, 99), announce(own, 0, 99, 1, 99), announce(root, 2, 99, 1, 5, 6),
	}
	for _, first := range list {
		for _, second := range list {
			x := linked(t, 2)
			holdIn(t, x, 0, first, 10, api.OK)
			holdIn(t, x, 0, second, 20, api.OK)
			for _, now := range []int{20, 110, 111, 120} {
				want, roles, told := self, []int{master, master}, announceOf(4, 1, own, 0, 50)
				if best.Cmp(second.Best, own) < 0 {
					want, roles = from(second, 0), []int{slave, master}
					told = announceOf(4, 1, second.Best, second.Steps+1, append(slices.Clone(second.Path), 50)...)
				}
				holdBest(t, x, now, want, roles...)
				holdOut(t, x, 1, 4, now, told)
			}
			// It was heard at 20, no more at 10.
			holdBest(t, x, 10, self, master, master)
			holdBest(t, x, 19, self, master, master)
			holdBest(t, x, 121, self, master, master)
		}
	}
}

// P20.2: each port has heard its own, at its own time.
func TestInEachPort(t *testing.T) {
	x := linked(t, 8)
	for at := range 8 {
		holdIn(t, x, at, announce(root, 10-at, 60+at, at, 60+at), 10*at, api.OK)
	}
	for at := range 8 {
		want := announce(root, 3, 67, 7)
		v, _ := x.Best(100)
		if v != from(want, 7) {
			t.Errorf("the best is %+v", v)
		}
		// From 100 ahead: only the ports up to at were heard.
		want = announce(root, 10-at, 60+at, at)
		if v, _ := x.Best(10*at + 9); v != from(want, at) {
			t.Errorf("at %d the best is %+v", 10*at+9, v)
		}
	}
	x.Up(7, false)
	holdBest(t, x, 100, from(announce(root, 4, 66, 6), 6), master, master, master, master, master, master, slave, off)
}

// P20.2: what was handed in isn't kept: neither the path nor the room behind it.
func TestInKeepsNothing(t *testing.T) {
	x := linked(t, 2)
	path := append(make([]int, 0, 40), 7, 99)
	m := announce(root, 2, 99, 1, path...)
	m.Path = path
	holdIn(t, x, 0, m, 0, api.OK)
	path[0] = 50
	path = append(path, 1, 2, 3)
	holdOut(t, x, 1, 4, 0, announceOf(4, 1, root, 3, 7, 99, 50))
	if !slices.Equal(path, []int{50, 99, 1, 2, 3}) {
		t.Errorf("the path that was handed in became %v", path)
	}
	holdOut(t, x, 1, 4, 0, announceOf(4, 1, root, 3, 7, 99, 50))
}

// P20.2: trees that hear one message share nothing.
func TestInTwoTrees(t *testing.T) {
	x, y := linked(t, 2), linked(t, 2)
	m := announce(root, 2, 99, 1, 7, 99)
	holdIn(t, x, 0, m, 0, api.OK)
	holdIn(t, y, 1, m, 0, api.OK)
	x.Up(0, false)
	holdBest(t, x, 0, self, off, master)
	holdBest(t, y, 0, from(m, 1), master, slave)
	holdOut(t, y, 0, 4, 0, announceOf(4, 0, root, 3, 7, 99, 50))
}
