package world_test

import (
	"testing"

	"sandglass/api"
	"sandglass/bridge"
	"sandglass/ether"
	"sandglass/plan"
	"sandglass/ptp"
	"sandglass/world"
)

// say is a step that lets a station send data everywhere.
func say(node, port, class int, data []byte) world.Step {
	return world.Step{K: world.Say, N: node, I: port, P: class, To: all, Bytes: data}
}

// long is data of a frame that is so many bytes long.
func long(size int) []byte { return make([]byte, size-20) }

// begin is a world of two or more nodes at a time when nothing is under way, ahead of the first flow.
func begin(t *testing.T, s world.Setup) *world.World {
	t.Helper()
	w := newWorld(t, s)
	run(t, w, 15_000)
	holdLost(t, w, 0, 0, 0)
	return w
}

// holdComes holds when frames of no flow come in, one nanosecond after the other.
func holdComes(t *testing.T, w *world.World, until int, want ...int) {
	t.Helper()
	var got []int
	before := len(w.Others())
	for w.Now() < until {
		run(t, w, 1)
		for after := len(w.Others()); before < after; before++ {
			got = append(got, w.Now())
		}
	}
	if text(got) != text(want) {
		t.Errorf("frames come at %v, not %v", got, want)
	}
}

// P25.3: a frame goes out for 8 nanoseconds a byte, and comes in when the link's time on that way has gone by.
func TestComes(t *testing.T) {
	for _, size := range []int{64, 65, 1000, 1600} {
		s := two()
		s.Delays = [][2]int{{90, 110}, {101, 99}}
		for _, c := range []struct{ node, port, delay int }{{0, 0, 90}, {1, 0, 110}, {0, 1, 101}, {1, 1, 99}} {
			s.Plan.Flows = nil
			w := begin(t, s)
			do(t, w, say(c.node, c.port, 3, long(size)))
			holdComes(t, w, 40_000, 15_000+8*size+c.delay)
			holdOthers(t, w, said(1-c.node, c.node, all, long(size)...))
			holdLost(t, w, 0, 0, 0)
		}
	}
}

// P25.3: while a frame goes out others wait; then the highest class goes first, of one class the one that has waited longest.
func TestWaits(t *testing.T) {
	w := begin(t, two())
	for i, class := range []int{0, 2, 5, 2, 4} {
		do(t, w, say(0, 0, class, []byte{byte(i)}))
	}
	holdComes(t, w, 19_000, 15_602, 16_114, 16_626, 17_138, 17_650)
	holdOthers(t, w, said(1, 0, all, 0), said(1, 0, all, 2), said(1, 0, all, 4), said(1, 0, all, 1), said(1, 0, all, 3))
}

// P25.3: a frame waits, if its gate doesn't stay open for as long as it needs, until it opens again. At port 0 of node 0 the gates of all but flows are closed from 19744 to 22056.
func TestGates(t *testing.T) {
	for _, c := range []struct{ at, size, out int }{
		{19_232, 64, 19_232}, {19_233, 64, 22_056}, {19_233, 63 + 1, 22_056},
		{18_944, 100, 18_944}, {18_945, 100, 22_056}, {19_744, 64, 22_056}, {22_055, 64, 22_056}, {22_056, 64, 22_056}, {22_057, 64, 22_057},
	} {
		s := two()
		w := newWorld(t, s)
		if w.Plan().Off != 128 {
			t.Fatalf("Off is %d", w.Plan().Off)
		}
		to(t, w, c.at)
		do(t, w, say(0, 0, 5, long(c.size)))
		holdComes(t, w, 30_000, c.out+8*c.size+90)
	}
	// One that is too long waits, and one of a lower class that isn't goes out ahead of it; of one class none overtakes.
	w := newWorld(t, two())
	to(t, w, 18_700)
	do(t, w, say(0, 0, 5, long(200)), say(0, 0, 5, []byte{2}), say(0, 0, 3, []byte{1}))
	holdComes(t, w, 30_000, 18_700+512+90, 22_056+1600+90, 22_056+2112+90)
	holdOthers(t, w, said(1, 0, all, 1), said(1, 0, all, long(200)...), said(1, 0, all, 2))
	// A message waits, too.
	s := two()
	s.Plan.Nodes[0].Ports, s.Plan.Nodes[1].Ports = 2, 2
	s.Plan.Flows[0].Start = 1256
	w = newWorld(t, s)
	do(t, w, world.Step{K: world.Lose, N: 20})
	// On both links node 1's come from 2602 on, each 512 behind the one ahead; node 0's from 1256+1000+800+256+512+90 on.
	if got := lostAt(t, w, world.Chance, 4138); text(got) != text([]int{2602, 2602, 3114, 3114, 3626, 3626, 3914, 3914, 4138, 4138}) {
		t.Errorf("the first messages come at %v", got)
	}
}

// P25.3: a gate opens as the node takes the time: of a station whose clock is fast or slow, and starts anywhere.
func TestGatesByTime(t *testing.T) {
	for _, c := range []struct{ start, at, out int }{
		{0, 19_500, 22_056}, {2000, 17_500, 20_056}, {400_000, 19_500, 22_056}, {1<<32 - 67_296, 19_500, 22_056},
	} {
		s := two()
		s.Clocks[0].Start = c.start
		w := newWorld(t, s)
		to(t, w, c.at)
		do(t, w, say(0, 0, 0, long(64)))
		holdComes(t, w, 24_000, c.out+512+90)
	}
	s := two()
	s.Clocks[0].Turns[0].Rate += 1 << 34 // 1/128 faster: 22056 comes at 22056 times 128/129, which is 21885.02
	w := newWorld(t, s)
	to(t, w, 19_500)
	do(t, w, say(0, 0, 0, long(64)))
	holdComes(t, w, 24_000, 21_886+512+90)
}

// P25.3: at a port there is room for 16 frames of each class, beside the one that goes out; what finds none is Full.
func TestFull(t *testing.T) {
	for class := range 6 {
		w := begin(t, two())
		for range 17 {
			do(t, w, say(0, 0, class, nil))
		}
		holdLost(t, w, 0, 0, 0)
		for n := range 3 {
			do(t, w, say(0, 0, class, nil))
			holdLost(t, w, n+1, 0, 0)
		}
		do(t, w, say(0, 0, (class+1)%6, nil), say(0, 1, class, nil), say(1, 0, class, nil))
		holdLost(t, w, 3, 0, 0)
		run(t, w, 2*small) // time for that of the other class, and for one of this one
		do(t, w, say(0, 0, class, nil))
		run(t, w, 40_000)
		holdLost(t, w, 3, 0, 0)
		if n := len(w.Others()); n != 21 {
			t.Errorf("of class %d came %d frames", class, n)
		}
	}
	// While the gates are closed nothing goes out.
	w := newWorld(t, two())
	to(t, w, 20_500)
	for range 18 {
		do(t, w, say(0, 0, 1, nil))
	}
	holdLost(t, w, 2, 0, 0)
}

// P25.3: of frames that may be dropped sooner half as many wait.
func TestFullOfDrops(t *testing.T) {
	s := four()
	s.Plan.Flows, s.Plan.Proc = nil, 0
	w := begin(t, s)
	guest := func(drop bool) {
		x := ether.Frame{Dst: all, Src: place, Tagged: true, Vid: 1, Prio: 2, Drop: drop, Type: 0x900}
		do(t, w, world.Step{K: world.Guest, N: 1, I: 2, Bytes: encode(t, x)})
	}
	for range 9 {
		guest(true)
	}
	holdLost(t, w, 0, 0, 0)
	guest(true)
	holdLost(t, w, 2, 0, 0)
	for range 8 {
		guest(false)
	}
	holdLost(t, w, 2, 0, 0)
	guest(false)
	holdLost(t, w, 4, 0, 0)
}

// P25.3: of messages 32 may wait: the halves of 32 answers, beside the half that goes out.
func TestFullOfMessages(t *testing.T) {
	w := begin(t, two())
	req := carry(t, ptp.Msg{Kind: ptp.Req})
	for range 32 {
		do(t, w, world.Step{K: world.Guest, N: 0, I: 2, Bytes: req})
	}
	holdLost(t, w, 0, 1, 0)
	do(t, w, world.Step{K: world.Guest, N: 0, I: 2, Bytes: req})
	holdLost(t, w, 1, 1, 0)
	run(t, w, small)
	holdLost(t, w, 1, 2, 0)
	run(t, w, 100*small)
	// 32 first halves and the one other half that had room go out, then the others' halves: but for one there is room for each.
	holdLost(t, w, 1, 64, 0)
}

// P25.3: what goes out where there is no link, or where it is gone, is Gone: when it goes out, which takes as long.
func TestGone(t *testing.T) {
	w := begin(t, two())
	do(t, w, say(0, 2, 0, nil), say(0, 2, 0, nil), say(0, 2, 0, long(100)), say(0, 2, 0, nil))
	holdLost(t, w, 0, 1, 0)
	if got := lostAt(t, w, world.Gone, 19_000); text(got) != text([]int{15_512, 16_024, 16_824}) {
		t.Errorf("frames are gone at %v", got)
	}
	w = begin(t, two())
	do(t, w, world.Step{K: world.Cut, N: 0}, say(0, 0, 0, nil), say(1, 0, 0, nil), say(0, 1, 0, nil))
	holdLost(t, w, 0, 2, 0)
	do(t, w, world.Step{K: world.Join, N: 0}, say(0, 0, 1, nil))
	run(t, w, 4000)
	holdLost(t, w, 0, 2, 0)
	if n := len(w.Others()); n != 2 {
		t.Errorf("%d frames came", n)
	}
}

// P25.3: what is under way on a link is Gone, if that goes, though it be there again when the frame comes in; what has come isn't, and what sets out behind that isn't.
func TestGoneMeanwhile(t *testing.T) {
	// A frame is under way from 15000 to 15602.
	for _, c := range []struct {
		cut, join int // when the link goes, and when it is there again; 0: it isn't
		gone      int
	}{
		{15_000, 0, 1}, {15_000, 15_000, 1}, {15_100, 15_200, 1}, {15_511, 15_513, 1}, {15_601, 0, 1}, {15_601, 15_601, 1}, {15_602, 0, 0}, {15_602, 15_603, 0},
	} {
		w := begin(t, two())
		do(t, w, say(0, 0, 0, []byte{1}))
		to(t, w, c.cut)
		do(t, w, world.Step{K: world.Cut, N: 0})
		if c.join > 0 {
			to(t, w, c.join)
			do(t, w, world.Step{K: world.Join, N: 0}, say(0, 0, 0, []byte{2}))
		}
		run(t, w, 3000)
		holdLost(t, w, 0, c.gone, 0)
		var want []world.Other
		if c.gone == 0 {
			want = append(want, said(1, 0, all, 1))
		}
		if c.join > 0 {
			want = append(want, said(1, 0, all, 2))
		}
		holdOthers(t, w, want...)
	}
}

// P25.3, P25.5: what is under way to a dead node, or from it, is Gone, and what goes out to it; so is each frame that waits at it, or that it lets pass.
func TestGoneAtDead(t *testing.T) {
	w := begin(t, two())
	do(t, w, say(0, 0, 0, nil), say(0, 0, 0, nil), say(1, 0, 0, nil), say(1, 0, 0, nil), say(1, 0, 3, nil), say(1, 2, 3, nil))
	do(t, w, world.Step{K: world.Kill, N: 1})
	run(t, w, 4000)
	// Two to it, one from it, two that waited at it; and one where it has no link.
	holdLost(t, w, 0, 6, 0)
	holdOthers(t, w)
	do(t, w, say(0, 1, 0, nil))
	holdLost(t, w, 0, 7, 0)

	w = begin(t, four())
	do(t, w, world.Step{K: world.Guest, N: 1, I: 2, Bytes: encode(t, ether.Frame{Dst: all, Type: 0x900})})
	run(t, w, 999)
	do(t, w, world.Step{K: world.Kill, N: 1})
	run(t, w, 4000)
	holdLost(t, w, 0, 2, 0)
	holdOthers(t, w)
}

// P25.3: a bridge needs Proc with what it lets pass; none but that.
func TestProc(t *testing.T) {
	for _, proc := range []int{0, 1, 1000, 20_000} {
		s := four()
		s.Plan.Flows, s.Plan.Proc = nil, proc
		s.Delays[0], s.Delays[1] = [2]int{91, 92}, [2]int{93, 94}
		w := begin(t, s)
		do(t, w, say(0, 0, 0, long(80)))
		holdComes(t, w, 60_000, 15_000+640+91+proc+640+93)
		// It goes out at port 2, too, where there is no link.
		holdLost(t, w, 0, 1, 0)
		do(t, w, say(3, 0, 0, long(80)))
		holdComes(t, w, 120_000, 60_000+640+94+proc+640+92)
		holdLost(t, w, 0, 2, 0)
		// An answer goes out at once, and where there is no link is gone as it does.
		do(t, w, world.Step{K: world.Guest, N: 1, I: 2, Bytes: carry(t, ptp.Msg{Kind: ptp.Req})})
		holdLost(t, w, 0, 3, 0)
		run(t, w, 511)
		holdLost(t, w, 0, 3, 0)
		run(t, w, 1)
		holdLost(t, w, 0, 4, 0)
	}
	// Of what comes at one time more than an agenda takes nothing is lost, but for want of room at a port.
	s := four()
	s.Plan.Flows, s.Plan.Proc = nil, 5000
	w := begin(t, s)
	x := encode(t, ether.Frame{Dst: all, Type: 0x900})
	for range 10_000 {
		do(t, w, world.Step{K: world.Guest, N: 1, I: 2, Bytes: x})
	}
	run(t, w, 100_000)
	holdLost(t, w, 2*10_000-2*17, 0, 0)
	if n := len(w.Others()); n != 34 {
		t.Errorf("%d frames came", n)
	}
}

// P25.3: a link may have more frames under way than an agenda has room for.
func TestManyUnderWay(t *testing.T) {
	c := plan.Conf{Cycle: 1000, Every: never, Grain: 1}
	for i := range 16 {
		c.Nodes = append(c.Nodes, plan.Node{Ports: 8})
		if i%2 == 1 {
			for port := range 8 {
				c.Links = append(c.Links, plan.Link{Ends: [2]plan.End{{Node: i - 1, Port: port}, {Node: i, Port: port}}, Low: 1 << 20, High: 1 << 20})
			}
		}
	}
	w := newWorld(t, clocks(c))
	run(t, w, 1_100_000)
	n, lost := 0, w.Lost()
	for range 200 {
		for i := range 16 {
			for port := range 8 {
				do(t, w, say(i, port, 1, nil))
				n++
			}
		}
		run(t, w, small)
	}
	if len(w.Others()) != 0 {
		t.Errorf("%d frames came", len(w.Others()))
	}
	run(t, w, 1<<21)
	if got := len(w.Others()); got != n || w.Lost() != lost {
		t.Errorf("of %d frames came %d, lost are %d, not %d", n, got, w.Lost(), lost)
	}
}

// P25.3, P25.5: the next messages are lost by Chance wherever they come in, and nothing else is.
func TestChance(t *testing.T) {
	w := begin(t, two())
	req := carry(t, ptp.Msg{Kind: ptp.Req})
	do(t, w, world.Step{K: world.Lose, N: 2}, say(0, 0, 0, nil), world.Step{K: world.Guest, N: 1, I: 2, Bytes: encode(t, ether.Frame{Dst: place, Type: ether.TypePtp})})
	run(t, w, 20_000)
	holdLost(t, w, 0, 0, 0)
	if len(w.Others()) != 2 || len(gotOf(w, 0)) != 1 {
		t.Errorf("came %v, %v", w.Others(), w.Got())
	}
	// What is no frame isn't a message, though it begin so.
	for _, x := range [][]byte{nil, ptpMac[:], req[:63], append(req[:63:63], req[63]+1), make([]byte, 64)} {
		do(t, w, world.Step{K: world.Guest, N: 0, I: 2, Bytes: x})
	}
	holdLost(t, w, 0, 0, 0)
	holdCounts(t, w, 0, bridge.Bad, 5)
	// A frame to there is one, whatever it says.
	do(t, w, world.Step{K: world.Guest, N: 0, I: 2, Bytes: encode(t, ether.Frame{Dst: ptpMac, Tagged: true, Vid: 5, Type: 0x900})})
	holdLost(t, w, 0, 0, 1)
	do(t, w, world.Step{K: world.Guest, N: 1, I: 2, Bytes: req})
	holdLost(t, w, 0, 0, 2)
	holdCounts(t, w, 0, bridge.Bad, 5)
	do(t, w, world.Step{K: world.Guest, N: 1, I: 2, Bytes: req})
	holdLost(t, w, 0, 1, 2)
	// What is Gone doesn't come in: with link 0 seven messages of each node go.
	w = newWorld(t, two())
	do(t, w, world.Step{K: world.Lose, N: 20})
	run(t, w, 1001)
	do(t, w, world.Step{K: world.Cut, N: 0})
	run(t, w, 15_000)
	if got := w.Lost(); got[world.Chance] != 14 || got[world.Gone] != 7 {
		t.Errorf("lost are %v", got)
	}
}

// P25.5: Lose counts from then on, whatever was to be lost ahead of it.
func TestLoseAgain(t *testing.T) {
	w := begin(t, two())
	req := world.Step{K: world.Guest, N: 1, I: 2, Bytes: carry(t, ptp.Msg{Kind: ptp.Req})}
	do(t, w, world.Step{K: world.Lose, N: 1 << 20}, req, world.Step{K: world.Lose, N: 1}, req, req)
	holdLost(t, w, 0, 1, 2)
	do(t, w, world.Step{K: world.Lose, N: 5}, req, world.Step{K: world.Lose}, req)
	holdLost(t, w, 0, 1, 3)
}

// P25.3: of one true time it is in the order in which it came to be known.
func TestOrder(t *testing.T) {
	star := func() world.Setup {
		s := named(t, 2, 3)
		s.Plan.Flows, s.Plan.Every = nil, never
		return s
	}
	// Stations 2 and 3 send at one time, one ahead of the other, or the other way round.
	for _, first := range []int{2, 3} {
		w := begin(t, star())
		do(t, w, say(first, 0, 0, []byte{1}), say(5-first, 0, 0, []byte{2}))
		run(t, w, 10_000)
		var list []byte
		for _, x := range w.Others() {
			if x.Node == 4 {
				list = append(list, x.Frame.Data[0])
			}
		}
		if text(list) != text([]byte{1, 2}) {
			t.Errorf("station 4 gets %v", list)
		}
	}
	// One sends sooner, what comes in later for the longer way comes at one time with the other's.
	for _, first := range []int{2, 3} {
		s := star()
		l := first - 2
		s.Delays[2*l][0] += 10
		w := begin(t, s)
		do(t, w, say(first, 0, 0, []byte{1}))
		if s.Plan.Links[2*l].Ends[0].Node != first {
			t.Fatal("the link lies the other way")
		}
		run(t, w, 10)
		do(t, w, say(5-first, 0, 0, []byte{2}))
		run(t, w, 10_000)
		var list []byte
		for _, x := range w.Others() {
			if x.Node == 4 {
				list = append(list, x.Frame.Data[0])
			}
		}
		if text(list) != text([]byte{1, 2}) {
			t.Errorf("station 4 gets %v", list)
		}
	}
	// Of two frames that are under way on a long link the second one was known ahead of one on a short link that comes in at the same time.
	s := star()
	for i := range s.Plan.Links {
		s.Plan.Links[i].High = 20_000
	}
	s.Delays[0][0] = 10_000
	w := begin(t, s)
	do(t, w, say(2, 0, 0, []byte{1}), say(2, 0, 0, []byte{2}))
	run(t, w, 512+10_000-90)
	do(t, w, say(3, 0, 0, []byte{3}))
	run(t, w, 30_000)
	var order []byte
	for _, x := range w.Others() {
		if x.Node == 4 {
			order = append(order, x.Frame.Data[0])
		}
	}
	if text(order) != text([]byte{1, 2, 3}) {
		t.Errorf("station 4 gets %v", order)
	}
	// As a frame has gone out another one comes to wait: it was known sooner that the port will be free than that one comes, so the one goes that waits already, though its class is lower.
	s = four()
	s.Plan.Flows, s.Plan.Proc = nil, 0
	w = begin(t, s)
	guest := func(prio int, data ...byte) {
		do(t, w, world.Step{K: world.Guest, N: 1, I: 2, Bytes: encode(t, ether.Frame{Dst: all, Tagged: true, Vid: 1, Prio: prio, Type: 0x900, Data: data})})
	}
	guest(0, 1)
	guest(0, 2)
	run(t, w, small)
	guest(5, 3)
	run(t, w, 10_000)
	var list []byte
	for _, x := range w.Others() {
		if x.Node == 3 {
			list = append(list, x.Frame.Data[0])
		}
	}
	if text(list) != text([]byte{1, 2, 3}) {
		t.Errorf("station 3 gets %v", list)
	}
}

// P25.5: a guest's bytes come in now, at what the clock marks: the answer goes out, or what is no frame is counted; what a station gets is told.
func TestGuest(t *testing.T) {
	s := four()
	s.Plan.Grain, s.Plan.Flows = 1000, nil
	w := newWorld(t, s)
	run(t, w, 15_300)
	x := encode(t, ether.Frame{Dst: place, Src: ether.Of(77), Tagged: true, Vid: 9, Prio: 3, Drop: true, Many: true, Seq: 5, Type: 0x900, Data: []byte("guest")})
	kept := string(x)
	do(t, w, world.Step{K: world.Guest, N: 3, I: 2, Bytes: x})
	f, _ := ether.Decode(x)
	holdOthers(t, w, world.Other{Node: 3, Frame: f})
	if string(x) != kept {
		t.Error("what was handed in is turned")
	}
	clear(x)
	holdOthers(t, w, world.Other{Node: 3, Frame: f})
	for i, x := range [][]byte{nil, make([]byte, 63), make([]byte, 64), make([]byte, 1601)} {
		for node := range 4 {
			do(t, w, world.Step{K: world.Guest, N: node, I: 2, Bytes: x})
			holdCounts(t, w, node, bridge.Bad, i+1)
		}
	}
	// A bridge learns where the guest is.
	to(t, w, 20_000)
	do(t, w, world.Step{K: world.Guest, N: 1, I: 2, Bytes: encode(t, ether.Frame{Dst: place, Src: ether.Of(77), Type: 0x900})})
	run(t, w, 9000)
	holdOthers(t, w, world.Other{Node: 3, Frame: f}, world.Other{Node: 0, Frame: ether.Frame{Dst: place, Src: ether.Of(77), Type: 0x900}}, world.Other{Node: 3, Frame: ether.Frame{Dst: place, Src: ether.Of(77), Type: 0x900}})
	do(t, w, world.Step{K: world.Say, N: 0, I: 0, To: ether.Of(77)})
	run(t, w, 9000)
	if len(w.Others()) != 3 || w.Node(1).Places() != 2 {
		t.Errorf("came %v; the bridge knows %d", w.Others(), w.Node(1).Places())
	}
	holdLost(t, w, 0, 1, 0)
}

// P25.5: at what the clock marks a guest came: its address is known for 300 Every from then on. A clock that counts 1000 ns at once and began at 300 marks 16000 at 16500, and tells 316300 at 316000, when the node ticks.
func TestGuestMark(t *testing.T) {
	s := clocks(plan.Conf{Nodes: []plan.Node{{Ports: 2}, {Ports: 2, Bridge: true}}, Cycle: 1000, Every: 1000, Grain: 1000})
	s.Clocks[1].Start = 300
	w := newWorld(t, s)
	to(t, w, 16_500)
	do(t, w, world.Step{K: world.Guest, N: 1, Bytes: encode(t, ether.Frame{Dst: all, Src: place, Type: 0x900})})
	to(t, w, 315_999)
	if n := w.Node(1).Places(); n != 1 {
		t.Errorf("the bridge knows %d", n)
	}
	run(t, w, 1)
	if n := w.Node(1).Places(); n != 0 {
		t.Errorf("the bridge knows %d still", n)
	}
}

// P25.5: what a station is let say goes out from its Id, of Type 0x0801, without a tag; with 1500 bytes, with 1501, and with as many as a frame takes.
func TestSay(t *testing.T) {
	w := begin(t, two())
	var want []world.Other
	for i, to := range []api.Mac{{}, place, all, ether.Of(1), ether.Of(2), world.FlowMac(0), {1, 0x80, 0xc2, 0, 0, 0x0f}} {
		data := make([]byte, []int{0, 1, 44, 1500, 1501, 1579, 1580}[i])
		for k := range data {
			data[k] = byte(k * i)
		}
		kept := text(data)
		do(t, w, world.Step{K: world.Say, N: 1, I: 1, P: i % 6, To: to, Bytes: data})
		want = append(want, said(0, 1, to, data...))
		if text(data) != kept {
			t.Error("what was handed in is turned")
		}
		run(t, w, 100_000)
		holdOthers(t, w, want...)
		clear(data)
		want[i] = w.Others()[i]
	}
	holdLost(t, w, 0, 0, 0)
	holdDo(t, w, world.Step{K: world.Say, N: 1, I: 1, To: place, Bytes: make([]byte, 1581)}, api.ErrLong)
	run(t, w, 100_000)
	holdOthers(t, w, want...)
}
