package world_test

import (
	"math/rand"
	"slices"
	"strconv"
	"testing"

	"sandglass/api"
	"sandglass/best"
	"sandglass/ether"
	"sandglass/osc"
	"sandglass/plan"
	"sandglass/ptp"
	"sandglass/rate"
	"sandglass/stamp"
	"sandglass/world"
)

// bounds lets the clocks of a network run at the bounds of Ppm, each as it likes, some turning from one to the other; its links take from Low to High. All start early enough, so that behind Settled no station was ahead of that time already: its flows' cycles wouldn't come again.
func bounds(s world.Setup, r *rand.Rand) world.Setup {
	for i := range s.Clocks {
		c := world.Clock{Start: r.Intn(1 << r.Intn(20)), One: [2]int{r.Intn(4), r.Intn(4)}}
		turns := anyOf(r, 1, 1, 64)
		for at := 0; len(c.Turns) < turns; at += 1 + r.Intn(6*s.Plan.Every) {
			x, _ := rate.Of(float64(anyOf(r, -s.Plan.Ppm, s.Plan.Ppm)))
			c.Turns = append(c.Turns, osc.Turn{At: at, Rate: x})
		}
		s.Clocks[i] = c
	}
	for i, l := range s.Plan.Links {
		s.Delays[i] = [2]int{anyOf(r, l.Low, l.High), anyOf(r, l.Low, l.High)}
	}
	return s
}

// watch is a world whose times are held together, and its frames to their windows.
type watch struct {
	t    *testing.T
	s    world.Setup
	w    *world.World
	p    plan.Plan
	from int // behind this time
	gone struct{ link, node int }
}

// newWatch is a world at Settled.
func newWatch(t *testing.T, s world.Setup) *watch {
	t.Helper()
	w := newWorld(t, s)
	x := &watch{t: t, s: s, w: w, p: w.Plan(), from: world.Settled(s.Plan)}
	x.gone.link, x.gone.node = -1, -1
	run(t, w, x.from)
	x.times()
	x.roles()
	return x
}

// times holds that no two living nodes' times differ by more than Off.
func (x *watch) times() {
	x.t.Helper()
	var list []stamp.Stamp
	for i := range x.s.Plan.Nodes {
		y, ok := x.w.Time(i)
		if ok != (i != x.gone.node) {
			x.t.Errorf("at %d node %d has a time: %v", x.w.Now(), i, ok)
		}
		if ok {
			list = append(list, y)
		}
	}
	if far := slices.Max(list) - slices.Min(list); far > stamp.Stamp(x.p.Off)*ns {
		x.t.Errorf("at %d times are %d ns from each other, more than %d", x.w.Now(), far/ns, x.p.Off)
	}
}

// run lets time go by, and looks at all times again and again.
func (x *watch) run(n int) {
	x.t.Helper()
	for end := x.w.Now() + n; x.w.Now() < end; {
		run(x.t, x.w, min(end-x.w.Now(), x.s.Plan.Every/7+1))
		x.times()
	}
}

// isThere tells whether a link is.
func (x *watch) isThere(l int) bool {
	ends := x.s.Plan.Links[l].Ends
	return l != x.gone.link && ends[0].Node != x.gone.node && ends[1].Node != x.gone.node
}

// isWhole tells whether a flow has a way of which nothing is gone.
func (x *watch) isWhole(f plan.Flow) bool {
	return slices.ContainsFunc(f.Ways[:], func(way []int) bool {
		return !slices.ContainsFunc(way, func(l int) bool { return !x.isThere(l) })
	})
}

// frames holds that each frame that set out behind Settled was taken once, in its window; how many did.
func (x *watch) frames() int {
	x.t.Helper()
	came := map[[2]int][]int{}
	for _, g := range x.w.Got() {
		k := [2]int{g.Flow, g.Seq}
		came[k] = append(came[k], g.At)
	}
	n := 0
	for _, y := range x.w.Sent() {
		win := x.p.Windows[y.Flow]
		if y.At < x.from || y.At+win.Max > x.w.Now() || !x.isWhole(x.s.Plan.Flows[y.Flow]) {
			continue
		}
		n++
		at := came[[2]int{y.Flow, y.Seq}]
		if len(at) != 1 || at[0]-y.At < win.Min || at[0]-y.At > win.Max {
			x.t.Errorf("%+v is taken at %v, not from %d to %d later", y, at, win.Min, win.Max)
		}
	}
	holdTaken(x.t, x.s, x.w)
	return n
}

// roles holds the tree of each domain: all that hear of each other know the best of them; each but that one has one Slave; a link has a Master, and a Slave or a Passive.
func (x *watch) roles() {
	x.t.Helper()
	for d := range 2 {
		var parts [][]int // of the network, each with the nodes that its links join
		part := make([]int, len(x.s.Plan.Nodes))
		for i := range part {
			part[i] = i
			parts = append(parts, []int{i})
		}
		for l, y := range x.s.Plan.Links {
			a, b := part[y.Ends[0].Node], part[y.Ends[1].Node]
			if a == b || !x.isThere(l) {
				continue
			}
			for _, i := range parts[b] {
				part[i] = a
			}
			parts[a], parts[b] = append(parts[a], parts[b]...), nil
		}
		roles := make([][]int, len(part))
		for i := range roles {
			if i == x.gone.node {
				continue
			}
			var priors []ptp.Prior
			for _, k := range parts[part[i]] {
				priors = append(priors, ptp.Prior{One: x.s.Clocks[k].One[d], Class: 6, Id: k + 1})
			}
			want := priors[best.First(priors)]
			var root ptp.Prior
			root, roles[i] = x.w.Roles(i, d)
			slaves := 0
			for _, role := range roles[i] {
				if role == best.Slave {
					slaves++
				}
			}
			if root != want || (slaves == 1) != (root.Id != i+1) || slaves > 1 {
				x.t.Errorf("at %d in domain %d node %d knows %+v, not %+v; its ports are %v", x.w.Now(), d, i, root, want, roles[i])
			}
		}
		for l, y := range x.s.Plan.Links {
			var ends []int
			for _, e := range y.Ends {
				if e.Node != x.gone.node {
					ends = append(ends, roles[e.Node][e.Port])
				}
			}
			slices.Sort(ends)
			switch {
			case !x.isThere(l) && slices.Max(ends) != best.Off, x.isThere(l) && (ends[0] != best.Master || ends[1] == best.Master):
				x.t.Errorf("at %d in domain %d the ends of link %d are %v", x.w.Now(), d, l, ends)
			}
		}
	}
}

// noise lets stations say something, and guests bring something; where bridges make a ring they say it to one place.
func (x *watch) noise(r *rand.Rand, ring bool) {
	x.t.Helper()
	i := r.Intn(len(x.s.Plan.Nodes))
	n := x.s.Plan.Nodes[i]
	to := anyOf(r, all, place, ether.Of(1+r.Intn(20)))
	if ring {
		to = ether.Of(100 + i)
	}
	if x.w.Node(i) == nil {
		return
	}
	if n.Bridge || r.Intn(2) == 0 {
		b := anyBytes(x.t, r)
		if f, err := ether.Decode(b); ring && err == api.OK && f.Dst != ptpMac {
			f.Dst, f.Src = to, to
			b = encode(x.t, f)
		}
		if err := x.w.Do(world.Step{K: world.Guest, N: i, I: n.Ports - 1, Bytes: b}); err != api.OK && err != api.ErrPort {
			x.t.Errorf("a guest is %d", err)
		}
		return
	}
	do(x.t, x.w, world.Step{K: world.Say, N: i, I: r.Intn(n.Ports), P: r.Intn(6), To: to, Bytes: make([]byte, r.Intn(1501))})
}

// goOn lets time go by, with what else there may be: messages that are lost now and then, stations that say something, guests.
func (x *watch) goOn(n int, r *rand.Rand, lossy, noisy, ring bool) {
	x.t.Helper()
	next := x.w.Now()
	for end := x.w.Now() + n; x.w.Now() < end; {
		if lossy && x.w.Now() >= next {
			do(x.t, x.w, world.Step{K: world.Lose, N: 1})
			next = x.w.Now() + 2*x.s.Plan.Every + x.s.Plan.Every/4 + r.Intn(x.s.Plan.Every)
		}
		for range 3 {
			if noisy {
				x.noise(r, ring)
			}
		}
		x.run(min(end-x.w.Now(), 1+r.Intn(x.s.Plan.Every/5)))
	}
}

// nets are networks that have names.
var nets = []struct{ kind, n int }{{0, 1}, {0, 2}, {0, 6}, {1, 4}, {1, 5}, {1, 8}, {2, 2}, {2, 3}, {2, 8}}

// P25.8, P25.9: in networks that have names, with clocks at the bounds of Ppm, whichever link goes, or which node but a flow's own: times stay together, each frame is taken once, in its window; and the roles are a tree once more.
func TestNets(t *testing.T) {
	for _, net := range nets {
		s := named(t, net.kind, net.n)
		links := len(s.Plan.Links)
		for k := range links + len(s.Plan.Nodes) {
			t.Run(strconv.Itoa(net.kind)+"-"+strconv.Itoa(net.n)+"-"+strconv.Itoa(k), func(t *testing.T) {
				t.Parallel()
				r := rand.New(rand.NewSource(int64(1000*net.kind + 100*net.n + k)))
				x := newWatch(t, bounds(named(t, net.kind, net.n), r))
				noisy, lossy := k%3 == 1, k%2 == 1
				x.goOn(r.Intn(x.s.Plan.Cycle), r, lossy, noisy, net.kind == 1)
				if k < links {
					x.gone.link = k
					do(t, x.w, world.Step{K: world.Cut, N: k})
				} else {
					x.gone.node = k - links
					do(t, x.w, world.Step{K: world.Kill, N: k - links})
				}
				x.goOn(4*x.s.Plan.Cycle, r, lossy, noisy, net.kind == 1)
				x.run(world.Settled(x.s.Plan) - 4*x.s.Plan.Cycle)
				x.roles()
				// A station that is dead takes its flows along: in the first kinds all of them.
				isOwn := func(f plan.Flow) bool { return f.From == x.gone.node || f.To == x.gone.node }
				flows := 0
				for _, f := range x.s.Plan.Flows {
					if !isOwn(f) {
						flows++
					}
				}
				if n := x.frames(); n < 10*flows {
					t.Errorf("of %d flows %d frames were looked at", flows, n)
				}
			})
		}
	}
}

// P25.8: with other numbers: slots that are short, times that are told often or seldom, links and bridges that take no time, or long, clocks that are worse.
func TestOtherNets(t *testing.T) {
	for i, c := range []struct {
		kind, n, every, cycle, ppm, grain, low, high, proc, size, length int
	}{
		{2, 3, 1_000_000, 4_000_000, 100, 8, 90, 100, 1000, 200, 10_000},
		{2, 4, 50_000, 500_000, 0, 1, 0, 0, 0, 64, 1000},
		{0, 2, 100_000, 2_000_000, 1000, 100, 500, 1500, 3000, 300, 9000},
		{1, 4, 100_000, 500_000, 10, 40, 5000, 5003, 1, 400, 10_000},
		{0, 1, 100_000, 1_400_000, 200, 1, 0, 1 << 13, 500, 100, 5000},
		{2, 2, 100_000, 4_000_000, 100, 8, 0, 100, 1 << 14, 1600, 30_000},
	} {
		t.Run(strconv.Itoa(i), func(t *testing.T) {
			t.Parallel()
			p, err := plan.Named(c.kind, c.n)
			if err != api.OK {
				t.Fatal(err)
			}
			p.Every, p.Cycle, p.Ppm, p.Grain, p.Proc = c.every, c.cycle, c.ppm, c.grain, c.proc
			for k := range p.Links {
				p.Links[k].Low, p.Links[k].High = c.low, c.high
			}
			for k := range p.Flows {
				p.Flows[k].Start, p.Flows[k].Size, p.Flows[k].Len = c.cycle/20+k*c.cycle/9, c.size, c.length
			}
			for k := range p.Nodes {
				p.Nodes[k].Ports++
			}
			r := rand.New(rand.NewSource(int64(i)))
			x := newWatch(t, bounds(clocks(p), r))
			x.goOn(p.Cycle, r, true, true, c.kind == 1)
			x.gone.link = r.Intn(len(p.Links))
			do(t, x.w, world.Step{K: world.Cut, N: x.gone.link})
			x.goOn(3*p.Cycle, r, true, true, c.kind == 1)
			if n := x.frames(); n < 3*len(p.Flows) {
				t.Errorf("%d frames were looked at", n)
			}
		})
	}
}

// P25.8: what stations say to all goes round a ring for ever, and flows come all the same.
func TestStorm(t *testing.T) {
	r := rand.New(rand.NewSource(5))
	x := newWatch(t, bounds(named(t, 1, 4), r))
	for i := range 40 {
		do(t, x.w, world.Step{K: world.Say, N: 4 + i%2, I: i / 2 % 2, P: i % 6, To: all, Bytes: make([]byte, 37*i)})
		x.run(500)
	}
	before := len(x.w.Others())
	x.run(2 * x.s.Plan.Cycle)
	x.gone.node = 3
	do(t, x.w, world.Step{K: world.Kill, N: 3})
	x.run(x.s.Plan.Cycle)
	if n := x.frames(); n < 16 {
		t.Errorf("%d frames were looked at", n)
	}
	if after := len(x.w.Others()); after < before+200 {
		t.Errorf("%d frames came, then %d", before, after)
	}
}

// P25.9: whatever went and came, and was lost: once nothing does any more, behind Settled the roles are a tree.
func TestTree(t *testing.T) {
	for seed := range 12 {
		t.Run(strconv.Itoa(seed), func(t *testing.T) {
			t.Parallel()
			r := rand.New(rand.NewSource(int64(300 + seed)))
			kind := r.Intn(3)
			x := newWatch(t, bounds(named(t, kind, anyOf(r, 4, 5, 6)), r))
			there := map[int]bool{}
			for range 40 {
				l := r.Intn(len(x.s.Plan.Links))
				there[l] = r.Intn(2) == 0
				do(t, x.w, world.Step{K: map[bool]int{true: world.Join, false: world.Cut}[there[l]], N: l})
				do(t, x.w, world.Step{K: world.Lose, N: r.Intn(30)})
				run(t, x.w, r.Intn(4*x.s.Plan.Every))
			}
			x.gone.node = r.Intn(len(x.s.Plan.Nodes))
			do(t, x.w, world.Step{K: world.Kill, N: x.gone.node}, world.Step{K: world.Lose})
			left := -1
			for l := range x.s.Plan.Links {
				if is, ok := there[l]; ok && !is && left < 0 && seed%2 == 0 {
					left = l // one stays gone
					continue
				}
				do(t, x.w, world.Step{K: world.Join, N: l})
			}
			x.gone.link = left
			run(t, x.w, world.Settled(x.s.Plan))
			x.roles()
			run(t, x.w, 10*x.s.Plan.Every)
			x.roles()
		})
	}
}
