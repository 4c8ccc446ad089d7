package world_test

import (
	"slices"
	"testing"

	"sandglass/api"
	"sandglass/best"
	"sandglass/plan"
	"sandglass/world"
)

// holdRefused holds a step that is refused, and that it has changed nothing.
func holdRefused(t *testing.T, w *world.World, s world.Step, want api.Errno) {
	t.Helper()
	before := text(w.Now()) + text(w.Lost()) + text(w.Sent()) + text(w.Others())
	holdDo(t, w, s, want)
	if after := text(w.Now()) + text(w.Lost()) + text(w.Sent()) + text(w.Others()); after != before {
		t.Errorf("Do(%+v) was refused, and changed %s to %s", s, before, after)
	}
}

// P25.5: steps that there aren't.
func TestNoStep(t *testing.T) {
	w := begin(t, four())
	for _, k := range []int{0, 8, -1, 9, 1 << 32, 1<<32 + 1, most, least} {
		holdRefused(t, w, world.Step{K: k}, api.ErrArg)
		holdRefused(t, w, world.Step{K: k, N: 1, I: 2, To: place}, api.ErrArg)
	}
	if world.Run != 1 || world.Lose != 7 {
		t.Errorf("steps are %d to %d", world.Run, world.Lose)
	}
}

// P25.5: time goes by for 0 to 2^30 nanoseconds, up to half of MaxTime.
func TestRun(t *testing.T) {
	w := newWorld(t, clocks(plan.Conf{Nodes: []plan.Node{{Ports: 1}, {Ports: 1}}, Links: []plan.Link{join(plan.End{}, plan.End{Node: 1})}, Cycle: 1 << 30, Every: 1 << 30, Grain: 1}))
	for _, n := range []int{-1, least, 1<<30 + 1, 1 << 32, most} {
		holdRefused(t, w, world.Step{K: world.Run, N: n}, api.ErrArg)
	}
	now := 0
	for _, n := range []int{0, 1, 0, 2, 1<<30 - 1, 1 << 30} {
		do(t, w, world.Step{K: world.Run, N: n})
		now += n
		if w.Now() != now {
			t.Errorf("true time is %d, not %d", w.Now(), now)
		}
	}
	for now+1<<30 <= maxTime/2 {
		do(t, w, world.Step{K: world.Run, N: 1 << 30})
		now += 1 << 30
	}
	rest := maxTime/2 - now
	holdRefused(t, w, world.Step{K: world.Run, N: rest + 1}, api.ErrArg)
	do(t, w, world.Step{K: world.Run, N: rest - 1})
	holdRefused(t, w, world.Step{K: world.Run, N: 2}, api.ErrArg)
	holdRefused(t, w, world.Step{K: world.Run, N: 1 << 30}, api.ErrArg)
	do(t, w, world.Step{K: world.Run, N: 1})
	holdRefused(t, w, world.Step{K: world.Run, N: 1}, api.ErrArg)
	do(t, w, world.Step{K: world.Run})
	if w.Now() != maxTime/2 {
		t.Errorf("true time is %d", w.Now())
	}
	for i := range 2 {
		if x, ok := w.Time(i); !ok || x < (maxTime/2-100)*ns || x > (maxTime/2+100)*ns {
			t.Errorf("node %d's time is %d, %v", i, x/ns, ok)
		}
	}
	// Other steps are taken then, too.
	do(t, w, say(0, 0, 1, nil), world.Step{K: world.Cut}, world.Step{K: world.Kill, N: 1})
}

// P25.5: a guest comes in where there is a port without a link: whether that is there or not.
func TestGuestRefused(t *testing.T) {
	w := begin(t, four())
	guest := func(n, i int) world.Step { return world.Step{K: world.Guest, N: n, I: i, Bytes: []byte("guest")} }
	for _, n := range append([]int{4}, strangers...) {
		holdRefused(t, w, guest(n, 2), api.ErrPort)
	}
	for n := range 4 {
		for _, i := range append([]int{0, 1, 3}, strangers...) {
			holdRefused(t, w, guest(n, i), api.ErrPort)
		}
		holdDo(t, w, guest(n, 2), api.OK)
	}
	do(t, w, world.Step{K: world.Cut, N: 0}, world.Step{K: world.Kill, N: 1}, world.Step{K: world.Kill, N: 3})
	for n, want := range []api.Errno{api.OK, api.ErrNone, api.OK, api.ErrNone} {
		holdRefused(t, w, guest(n, 0), api.ErrPort)
		holdRefused(t, w, guest(n, 3), api.ErrPort)
		holdDo(t, w, guest(n, 2), want)
	}
}

// P25.5: a station says something at one of its ports, with a link or without.
func TestSayRefused(t *testing.T) {
	w := begin(t, four())
	long := make([]byte, 1581)
	at := func(n, i, p int, to api.Mac, data []byte) world.Step {
		return world.Step{K: world.Say, N: n, I: i, P: p, To: to, Bytes: data}
	}
	for _, n := range append([]int{1, 2, 4}, strangers...) {
		holdRefused(t, w, at(n, 0, 0, place, nil), api.ErrPort)
		holdRefused(t, w, at(n, 0, 6, ptpMac, long), api.ErrPort)
	}
	for _, n := range []int{0, 3} {
		for _, i := range append([]int{3}, strangers...) {
			holdRefused(t, w, at(n, i, 0, place, nil), api.ErrPort)
			holdRefused(t, w, at(n, i, 6, ptpMac, long), api.ErrPort)
		}
		for _, p := range append([]int{6, 7, 8}, strangers...) {
			holdRefused(t, w, at(n, 0, p, place, nil), api.ErrArg)
			holdRefused(t, w, at(n, 0, p, place, long), api.ErrArg)
		}
		holdRefused(t, w, at(n, 0, 0, ptpMac, nil), api.ErrArg)
		holdRefused(t, w, at(n, 0, 5, ptpMac, long), api.ErrArg)
		holdRefused(t, w, at(n, 0, 0, place, long), api.ErrLong)
		for p := range 6 {
			for i := range 3 {
				holdDo(t, w, at(n, i, p, place, nil), api.OK)
			}
		}
	}
	do(t, w, world.Step{K: world.Kill, N: 3}, world.Step{K: world.Kill, N: 1})
	holdRefused(t, w, at(3, 0, 0, place, nil), api.ErrNone)
	holdRefused(t, w, at(3, 2, 6, ptpMac, long), api.ErrNone)
	holdRefused(t, w, at(3, 3, 0, place, nil), api.ErrPort)
	holdRefused(t, w, at(1, 0, 0, place, nil), api.ErrPort)
	holdDo(t, w, at(0, 0, 0, place, nil), api.OK)
}

// P25.5: of links and nodes that there aren't; and how many messages may be lost.
func TestOthersRefused(t *testing.T) {
	w := begin(t, four())
	for _, n := range append([]int{4}, strangers...) {
		holdRefused(t, w, world.Step{K: world.Cut, N: n}, api.ErrLink)
		holdRefused(t, w, world.Step{K: world.Join, N: n}, api.ErrLink)
		holdRefused(t, w, world.Step{K: world.Kill, N: n}, api.ErrNone)
	}
	for _, n := range []int{-1, 1<<20 + 1, 1 << 32, most, least} {
		holdRefused(t, w, world.Step{K: world.Lose, N: n}, api.ErrArg)
	}
	for _, n := range []int{0, 1, 1<<20 - 1, 1 << 20} {
		holdDo(t, w, world.Step{K: world.Lose, N: n}, api.OK)
	}
	// A refused one leaves how many are to be lost.
	holdRefused(t, w, world.Step{K: world.Lose, N: -1}, api.ErrArg)
	run(t, w, never)
	if lost := w.Lost(); lost[world.Chance] == 0 {
		t.Errorf("lost are %v", lost)
	}
}

// holdRoles holds what a node's ports are to do in both domains.
func holdRoles(t *testing.T, w *world.World, i int, want ...int) {
	t.Helper()
	for d := range 2 {
		if _, roles := w.Roles(i, d); !slices.Equal(roles, want) {
			t.Errorf("at %d node %d's roles in domain %d are %v, not %v", w.Now(), i, d, roles, want)
		}
	}
}

// P25.5: a link goes and comes, of which both ends are told at once; what is so already stays.
func TestCutJoin(t *testing.T) {
	s := two()
	s.Plan.Every = 50_000
	w := newWorld(t, s)
	run(t, w, 10*s.Plan.Every)
	holdRoles(t, w, 0, best.Master, best.Master, best.Off)
	holdRoles(t, w, 1, best.Slave, best.Passive, best.Off)
	if _, ok := w.Node(0).Able(0); !ok {
		t.Error("link 0 isn't measured")
	}
	for range 2 {
		do(t, w, world.Step{K: world.Cut, N: 0})
		holdRoles(t, w, 0, best.Off, best.Master, best.Off)
		holdRoles(t, w, 1, best.Off, best.Slave, best.Off)
		for i := range 2 {
			if _, ok := w.Node(i).Able(0); ok {
				t.Errorf("node %d's link is measured, and gone", i)
			}
		}
	}
	do(t, w, world.Step{K: world.Join, N: 0})
	holdRoles(t, w, 0, best.Master, best.Master, best.Off)
	holdRoles(t, w, 1, best.Master, best.Slave, best.Off)
	run(t, w, 10*s.Plan.Every)
	do(t, w, world.Step{K: world.Join, N: 0}, world.Step{K: world.Join, N: 1})
	holdRoles(t, w, 1, best.Slave, best.Passive, best.Off)
	if _, ok := w.Node(1).Able(0); !ok {
		t.Error("to join what is there has told its ends")
	}
}

// P25.5: a node that is dead is so for good; its links are gone, of which its neighbours are told, and don't come again.
func TestKill(t *testing.T) {
	s := four()
	s.Plan.Every = 50_000
	w := newWorld(t, s)
	run(t, w, 10*s.Plan.Every)
	holdRoles(t, w, 3, best.Slave, best.Passive, best.Off)
	for range 2 {
		do(t, w, world.Step{K: world.Kill, N: 2})
		holdNoNode(t, w, 2)
		holdRoles(t, w, 0, best.Master, best.Off, best.Off)
		if _, roles := w.Roles(3, 0); roles[1] != best.Off {
			t.Errorf("node 3's roles are %v", roles)
		}
	}
	for _, l := range []int{0, 1, 2, 3, 2, 3} {
		do(t, w, world.Step{K: world.Join, N: l})
	}
	do(t, w, world.Step{K: world.Cut, N: 2}, world.Step{K: world.Join, N: 2})
	lost := w.Lost()
	do(t, w, say(0, 1, 0, nil))
	if got := w.Lost(); got[world.Gone] != lost[world.Gone]+1 {
		t.Errorf("lost are %v, then %v", lost, got)
	}
	before := text(w.Sent())
	run(t, w, 10*s.Plan.Every)
	holdNoNode(t, w, 2)
	holdRoles(t, w, 0, best.Master, best.Off, best.Off)
	holdRoles(t, w, 3, best.Slave, best.Off, best.Off)
	if len(text(w.Sent())) <= len(before) || len(w.Got()) != len(w.Sent()) {
		t.Errorf("sent are %v, taken %v", w.Sent(), w.Got())
	}
	for i := range 4 {
		do(t, w, world.Step{K: world.Kill, N: i})
		holdNoNode(t, w, i)
	}
	before = text(w.Sent()) + text(w.Got()) + text(w.Others()) + text(w.Lost())
	run(t, w, 1_000_000)
	if after := text(w.Sent()) + text(w.Got()) + text(w.Others()) + text(w.Lost()); after != before {
		t.Errorf("all are dead, and %s is %s", before, after)
	}
}
