package osc_test

import (
	"testing"

	"sandglass/api"
	"sandglass/osc"
)

// plain is one turn, from 0 on, at One.
func plain() []osc.Turn { return []osc.Turn{{Rate: one}} }

// behind is a plain turn, and others behind it.
func behind(turns ...osc.Turn) []osc.Turn { return append(plain(), turns...) }

// holdNew holds New of a script against the error that it must have.
func holdNew(t *testing.T, s script, want api.Errno) {
	t.Helper()
	c, err := osc.New(s.start, s.grain, s.turns)
	if err != want || (c != nil) != (want == api.OK) {
		t.Errorf("New(%d, %d, %v) is a clock: %v, %d, not %d", int(s.start), s.grain, s.turns, c != nil, err, want)
	}
}

// P7.1: how many turns there may be; that there are too many goes ahead of all else.
func TestNewCount(t *testing.T) {
	for _, n := range []int{1, 2, 63, 64} {
		holdNew(t, script{0, 1, steady(n, 5)}, api.OK)
	}
	for _, n := range []int{65, 66, 128, 1000} {
		holdNew(t, script{0, 1, steady(n, 5)}, api.ErrMany)
		holdNew(t, script{far + 1, 0, make([]osc.Turn, n)}, api.ErrMany)
		wrong := steady(n, 5)
		wrong[0].At = 1
		holdNew(t, script{0, 1, wrong}, api.ErrMany)
	}
	holdNew(t, script{0, 1, nil}, api.ErrArg)
	holdNew(t, script{0, 1, []osc.Turn{}}, api.ErrArg)
	if osc.MostTurns != 64 {
		t.Error("MostTurns is", osc.MostTurns)
	}
}

// P7.1: the first turn, the grain and the start, at their ends and beyond.
func TestNewArgs(t *testing.T) {
	for _, at := range []int{1, -1, 1000, maxTime, maxTime + 1, most, least} {
		holdNew(t, script{0, 1, []osc.Turn{{At: at, Rate: one}}}, api.ErrArg)
		holdNew(t, script{0, 1, []osc.Turn{{At: at, Rate: one}, {At: 0, Rate: one}}}, api.ErrArg)
	}
	for _, grain := range []int{1, 2, 7, 8, 40, 999, 1000} {
		holdNew(t, script{0, grain, plain()}, api.OK)
	}
	for _, grain := range []int{0, -1, -8, 1001, 1 << 20, 1<<32 + 8, most, least} {
		holdNew(t, script{0, grain, plain()}, api.ErrArg)
	}
	for _, x := range []script{{start: far}, {start: far - 1}, {start: -far}, {start: -far + 1}, {start: 0}, {start: -1}} {
		holdNew(t, script{x.start, 1, plain()}, api.OK)
	}
	for _, x := range []script{{start: far + 1}, {start: -far - 1}, {start: 1 << 61}, {start: -1 << 61}, {start: most}, {start: least}} {
		holdNew(t, script{x.start, 1, plain()}, api.ErrArg)
	}
}

// P7.1: the order of turns, and their rates.
func TestNewTurns(t *testing.T) {
	for _, x := range []struct {
		turns []osc.Turn
		want  api.Errno
	}{
		{behind(osc.Turn{At: 1, Rate: one}), api.OK},
		{behind(osc.Turn{At: 1, Rate: one}, osc.Turn{At: 2, Rate: one}), api.OK},
		{behind(osc.Turn{At: 0, Rate: one}), api.ErrOrder},
		{behind(osc.Turn{At: -1, Rate: one}), api.ErrOrder},
		{behind(osc.Turn{At: least, Rate: one}), api.ErrOrder},
		{behind(osc.Turn{At: 5, Rate: one}, osc.Turn{At: 5, Rate: one}), api.ErrOrder},
		{behind(osc.Turn{At: 5, Rate: one}, osc.Turn{At: 4, Rate: one}), api.ErrOrder},
		{behind(osc.Turn{At: 5, Rate: one}, osc.Turn{At: 9, Rate: one}, osc.Turn{At: 7, Rate: one}), api.ErrOrder},
		{behind(osc.Turn{At: maxTime, Rate: one}), api.OK},
		{behind(osc.Turn{At: maxTime - 1, Rate: one}, osc.Turn{At: maxTime, Rate: one}), api.OK},
		{behind(osc.Turn{At: maxTime + 1, Rate: one}), api.ErrOrder},
		{behind(osc.Turn{At: most, Rate: one}), api.ErrOrder},
		{behind(osc.Turn{At: maxTime, Rate: one}, osc.Turn{At: maxTime + 1, Rate: one}), api.ErrOrder},
		{[]osc.Turn{{Rate: slowest}}, api.OK}, {[]osc.Turn{{Rate: fastest}}, api.OK},
		{[]osc.Turn{{Rate: slowest - 1}}, api.ErrRate}, {[]osc.Turn{{Rate: fastest + 1}}, api.ErrRate},
		{[]osc.Turn{{Rate: 0}}, api.ErrRate}, {[]osc.Turn{{Rate: -one}}, api.ErrRate}, {[]osc.Turn{{Rate: most}}, api.ErrRate}, {[]osc.Turn{{Rate: least}}, api.ErrRate},
		{behind(osc.Turn{At: 9, Rate: fastest}, osc.Turn{At: 10, Rate: slowest}), api.OK},
		{behind(osc.Turn{At: 9, Rate: fastest + 1}), api.ErrRate}, {behind(osc.Turn{At: 9, Rate: slowest - 1}), api.ErrRate},
	} {
		holdNew(t, script{0, 1, x.turns}, x.want)
	}
	// The last of as many turns as there may be is asked too.
	for _, wrong := range []struct {
		turn osc.Turn
		want api.Errno
	}{{osc.Turn{At: 310, Rate: one}, api.ErrOrder}, {osc.Turn{At: 311, Rate: one}, api.OK}, {osc.Turn{At: 311}, api.ErrRate}} {
		holdNew(t, script{0, 1, append(steady(63, 5), wrong.turn)}, wrong.want)
	}
}

// P7.1: of several errors the one that the chapter names first: of the arguments ahead of the turns', and turn by turn.
func TestNewSeveral(t *testing.T) {
	for _, x := range []struct {
		s    script
		want api.Errno
	}{
		{script{0, 0, behind(osc.Turn{At: 0, Rate: 0})}, api.ErrArg},
		{script{0, 1001, []osc.Turn{{}}}, api.ErrArg},
		{script{far + 1, 1, []osc.Turn{{}, {}}}, api.ErrArg},
		{script{0, 1, []osc.Turn{{At: 3}}}, api.ErrArg},
		{script{0, 1, []osc.Turn{{At: maxTime + 1}}}, api.ErrArg},
		{script{0, 1, behind(osc.Turn{At: 0, Rate: 0})}, api.ErrOrder},            // of one turn the order first
		{script{0, 1, behind(osc.Turn{At: maxTime + 1, Rate: -1})}, api.ErrOrder}, // likewise
		{script{0, 1, []osc.Turn{{Rate: 0}, {At: 0, Rate: one}}}, api.ErrRate},    // the first turn's rate ahead of the second one's order
		{script{0, 1, []osc.Turn{{Rate: 0}, {At: maxTime + 1, Rate: one}}}, api.ErrRate},
		{script{0, 1, behind(osc.Turn{At: 5, Rate: 0}, osc.Turn{At: 4, Rate: one})}, api.ErrRate},
		{script{0, 1, behind(osc.Turn{At: 0, Rate: one}, osc.Turn{At: 4, Rate: 0})}, api.ErrOrder},
	} {
		holdNew(t, x.s, x.want)
	}
}
