package tree_test

import (
	"slices"
	"testing"

	"sandglass/best"
	"sandglass/ptp"
	"sandglass/tree"
)

// Between two rounds there are 10; what was heard holds for three of them and a half.
const (
	every = 10
	holds = 35
)

// end is a clock's port.
type end struct{ clock, port int }

// link goes from one end to another one.
type link struct {
	ends [2]end
	up   bool
}

// net is clocks and links.
type net struct {
	t      *testing.T
	priors []ptp.Prior
	trees  []*tree.Tree
	links  []link
	now    int
}

// newNet is clocks of some priors, with links between their ports; each port has one at most.
func newNet(t *testing.T, priors []ptp.Prior, links ...[2]end) *net {
	n := &net{t: t, priors: priors}
	for _, p := range priors {
		n.trees = append(n.trees, newTree(t, 1, p, 8, holds))
	}
	for _, ends := range links {
		n.links = append(n.links, link{ends: ends})
		n.set(len(n.links)-1, true)
	}
	return n
}

// set lets a link be there, or fail.
func (n *net) set(i int, up bool) {
	n.links[i].up = up
	for _, e := range n.links[i].ends {
		n.trees[e.clock].Up(e.port, up)
	}
}

// sent is a message on its way.
type sent struct {
	to end
	m  ptp.Msg
}

// tell is what one end of a link tells the other one: none, or one.
func (n *net) tell(i, side int) []sent {
	e := n.links[i].ends[side]
	m, ok := n.trees[e.clock].Out(e.port, n.now%65536, n.now)
	switch {
	case !ok:
		return nil
	case !n.links[i].up:
		n.t.Fatalf("clock %d tells something at port %d, where no link is", e.clock, e.port)
	}
	return []sent{{n.links[i].ends[1-side], m}}
}

// round lets all that is told come: told in an order of the links' ends, each coming at once, or all behind the last one.
func (n *net) round(order []int, atOnce bool) {
	var list []sent
	for _, i := range order {
		list = append(list, n.tell(i/2, i%2)...)
		if atOnce {
			n.hear(list)
			list = nil
		}
	}
	n.hear(list)
	n.now += every
}

// hear lets messages come; some of them aren't taken, because they have come round.
func (n *net) hear(list []sent) {
	for _, x := range list {
		n.trees[x.to.clock].In(x.to.port, x.m, n.now)
	}
}

// way is how the rounds go.
type way int

const ways = 5

// rounds lets some rounds go by.
func (n *net) rounds(c *chance, count int, w way) {
	order := make([]int, 2*len(n.links))
	for i := range order {
		order[i] = i
	}
	if w == 2 {
		slices.Reverse(order)
	}
	for range count {
		if w >= 3 {
			for i := range order {
				j := i + c.below(len(order)-i)
				order[i], order[j] = order[j], order[i]
			}
		}
		n.round(order, w != 0 && w != 3)
	}
}

// reach is how far clocks are from one; -1: they can't be reached.
func (n *net) reach(from int) []int {
	far := slices.Repeat([]int{-1}, len(n.trees))
	far[from] = 0
	for range n.trees {
		for _, l := range n.links {
			for side := range 2 {
				a, b := l.ends[side].clock, l.ends[1-side].clock
				if l.up && far[a] >= 0 && (far[b] < 0 || far[b] > far[a]+1) {
					far[b] = far[a] + 1
				}
			}
		}
	}
	return far
}

// holdSettled holds each clock against that it knows the best one that can be reached, by the fewest steps, over its one Slave.
func (n *net) holdSettled() {
	n.t.Helper()
	for i, x := range n.trees {
		root, far := i, n.reach(i)
		for j, p := range n.priors {
			if far[j] >= 0 && best.Cmp(p, n.priors[root]) < 0 {
				root = j
			}
		}
		v, roles := x.Best(n.now)
		slaves := 0
		for at, role := range roles {
			if role == slave {
				slaves++
			}
			if (role == slave) != (at == v.At) {
				n.t.Fatalf("clock %d hears the best one at %d, and its ports' roles are %v", i, v.At, roles)
			}
		}
		want := best.Vec{Root: n.priors[i], From: n.priors[i].Id, At: -1}
		if root != i {
			// By whom, from which port and where it is heard, is held by the links.
			want = best.Vec{Root: n.priors[root], Steps: far[root] - 1, From: v.From, Port: v.Port, At: v.At}
		}
		if v != want || slaves != is(root != i) || x.Root(n.now) != (root == i) {
			n.t.Fatalf("clock %d knows %+v, not %+v, and its ports' roles are %v", i, v, want, roles)
		}
	}
	n.holdLinks()
}

// holdLinks holds the ends of each link against each other: one is Master, the other one Slave or Passive; a Slave hears the other end.
func (n *net) holdLinks() {
	n.t.Helper()
	linked := map[end]bool{}
	for _, l := range n.links {
		var roles [2]int
		for side, e := range l.ends {
			v, list := n.trees[e.clock].Best(n.now)
			roles[side] = list[e.port]
			linked[e] = l.up
			other := l.ends[1-side]
			if roles[side] == slave && (v.From != n.priors[other.clock].Id || v.Port != other.port) {
				n.t.Fatalf("%v is Slave of %+v, not of %v", e, v, other)
			}
		}
		slices.Sort(roles[:])
		if l.up && (roles[0] != master || roles[1] != slave && roles[1] != passive) {
			n.t.Fatalf("the ends of %v are %v", l.ends, roles)
		}
	}
	for i, x := range n.trees {
		_, list := x.Best(n.now)
		for at, role := range list {
			if (role == off) == linked[end{i, at}] {
				n.t.Fatalf("port %d of clock %d is %d", at, i, role)
			}
		}
	}
}

// state is what all clocks know and do.
func (n *net) state() ([]best.Vec, [][]int) {
	var vecs []best.Vec
	var roles [][]int
	for _, x := range n.trees {
		v, list := x.Best(n.now)
		vecs, roles = append(vecs, v), append(roles, list)
	}
	return vecs, roles
}

// holdStays holds it against that it is settled, and stays so.
func (n *net) holdStays(c *chance, w way) {
	n.t.Helper()
	n.holdSettled()
	vecs, roles := n.state()
	for range 3 * len(n.trees) {
		n.rounds(c, 1, w)
		v, r := n.state()
		if !slices.Equal(v, vecs) || !slices.EqualFunc(r, roles, slices.Equal[[]int]) {
			n.t.Fatalf("what stood so at first: %v, %v, became %v, %v", vecs, roles, v, r)
		}
	}
	n.holdSettled()
}

// settle lets as many rounds go by as there are clocks, behind those in which all that was heard elsewhere grows old.
// That may be told on from clock to clock, by each as long as it holds; never twice by one.
func (n *net) settle(c *chance, w way) {
	hops := holds/every + 2
	n.rounds(c, len(n.trees)*hops+len(n.trees), w)
}

// inOrder is so many clocks, the first one the best.
func inOrder(count int) []ptp.Prior {
	list := make([]ptp.Prior, count)
	for i := range list {
		list[i] = ptp.Prior{One: 1, Class: 2, Two: 3, Id: 10 + i}
	}
	return list
}

// turned is so many clocks, the last one the best.
func turned(count int) []ptp.Prior {
	list := inOrder(count)
	for i := range list {
		list[i].Class = count - i
	}
	return list
}

// line is links from each clock's port 1 to the next one's port 0.
func line(count int) [][2]end {
	var links [][2]end
	for i := 1; i < count; i++ {
		links = append(links, [2]end{{i - 1, 1}, {i, 0}})
	}
	return links
}

// ring is a line whose ends are linked.
func ring(count int) [][2]end { return append(line(count), [2]end{{count - 1, 1}, {0, 0}}) }

// full is links from each clock to each other one.
func full(count int) [][2]end {
	var links [][2]end
	for i := range count {
		for j := range i {
			links = append(links, [2]end{{i, j}, {j, i - 1}})
		}
	}
	return links
}

// star is links from clock 0 to each other one.
func star(count int) [][2]end {
	var links [][2]end
	for i := 1; i < count; i++ {
		links = append(links, [2]end{{0, i - 1}, {i, 3}})
	}
	return links
}

// holdRoles holds the ports 0 and 1 of all clocks against their roles.
func (n *net) holdRoles(want ...[2]int) {
	n.t.Helper()
	for i, x := range n.trees {
		if _, roles := x.Best(n.now); !slices.Equal(roles[:2], want[i][:]) {
			n.t.Errorf("the roles of clock %d are %v, not %v", i, roles[:2], want[i])
		}
	}
}

// P20.5: a line of four: from the best one on each is told by the one ahead; a link that goes and comes again.
func TestLine(t *testing.T) {
	for w := range way(ways) {
		c := chance(w)
		n := newNet(t, inOrder(4), line(4)...)
		n.rounds(&c, 4, w)
		n.holdStays(&c, w)
		n.holdRoles([2]int{off, master}, [2]int{slave, master}, [2]int{slave, master}, [2]int{slave, off})
		n.set(1, false)
		n.settle(&c, w)
		n.holdStays(&c, w)
		n.holdRoles([2]int{off, master}, [2]int{slave, off}, [2]int{off, master}, [2]int{slave, off})
		n.set(1, true)
		n.settle(&c, w)
		n.holdStays(&c, w)
		n.holdRoles([2]int{off, master}, [2]int{slave, master}, [2]int{slave, master}, [2]int{slave, off})
	}
}

// P20.5: a ring of five, the best one last; a link that goes, one more, and both come again.
func TestRing(t *testing.T) {
	for w := range way(ways) {
		c := chance(w)
		n := newNet(t, turned(5), ring(5)...)
		whole := [][2]int{{slave, master}, {slave, master}, {passive, slave}, {master, slave}, {master, master}}
		n.rounds(&c, 5, w)
		n.holdStays(&c, w)
		// Of two clocks at two steps the one with the lesser Id tells the other one: clocks 1 and 2.
		n.holdRoles(whole...)
		n.set(4, false)
		n.settle(&c, w)
		n.holdStays(&c, w)
		n.holdRoles([2]int{off, slave}, [2]int{master, slave}, [2]int{master, slave}, [2]int{master, slave}, [2]int{master, off})
		n.set(2, false)
		n.settle(&c, w)
		n.holdStays(&c, w)
		n.holdRoles([2]int{off, slave}, [2]int{master, slave}, [2]int{master, off}, [2]int{off, slave}, [2]int{master, off})
		n.set(2, true)
		n.set(4, true)
		n.settle(&c, w)
		n.holdStays(&c, w)
		n.holdRoles(whole...)
	}
}

// P20.5: two links between two clocks: the one from the lesser port is taken, the other end is Passive; if that fails, the other one.
func TestTwoLinks(t *testing.T) {
	for w := range way(ways) {
		c := chance(w)
		n := newNet(t, inOrder(2), [2]end{{0, 1}, {1, 0}}, [2]end{{0, 0}, {1, 1}})
		n.rounds(&c, 1, w)
		n.holdStays(&c, w)
		n.holdRoles([2]int{master, master}, [2]int{passive, slave})
		n.set(1, false)
		n.settle(&c, w)
		n.holdStays(&c, w)
		n.holdRoles([2]int{off, master}, [2]int{slave, off})
	}
}

// P20.5: shapes of up to as many clocks as a network has, the best one first and last: behind as many rounds as there are clocks.
func TestShapes(t *testing.T) {
	for w := range way(ways) {
		c := chance(w)
		for count := 1; count <= 16; count++ {
			for _, priors := range [][]ptp.Prior{inOrder(count), turned(count)} {
				shapes := [][][2]end{line(count)}
				if count > 2 {
					shapes = append(shapes, ring(count))
				}
				if count <= 9 {
					shapes = append(shapes, full(count), star(count))
				}
				for _, links := range shapes {
					n := newNet(t, priors, links...)
					n.rounds(&c, count, w)
					n.holdStays(&c, w)
				}
			}
		}
	}
}

// P20.5: the furthest a path goes: 32 clocks in a line.
func TestLongLine(t *testing.T) {
	for w := range way(ways) {
		c := chance(w)
		for _, priors := range [][]ptp.Prior{inOrder(32), turned(32)} {
			n := newNet(t, priors, line(32)...)
			n.rounds(&c, 32, w)
			n.holdStays(&c, w)
		}
	}
}

// anyNet is a net whose clocks and links look like ones at random, all of them there; some may not be reached.
func (c *chance) anyNet(t *testing.T) *net {
	t.Helper()
	count := 1 + c.below(16)
	priors := make([]ptp.Prior, count)
	for i := range priors {
		priors[i] = ptp.Prior{One: c.below(2), Class: c.below(2), Two: c.below(2), Id: i*7%17 + 1}
	}
	used := make([]int, count)
	var links [][2]end
	for range c.below(3*count + 1) {
		a, b := c.below(count), c.below(count)
		if a != b && used[a] < 8 && used[b] < 8 {
			// Ports from both sides, so that the order of ports isn't that of links.
			links = append(links, [2]end{{a, used[a] * 3 % 8}, {b, used[b] * 3 % 8}})
			used[a]++
			used[b]++
		}
	}
	return newNet(t, priors, links...)
}

// P20.5: nets, from nothing heard on: behind as many rounds as there are clocks.
func TestNets(t *testing.T) {
	c := chance(7)
	for i := range 400 {
		n := c.anyNet(t)
		w := way(i % ways)
		n.rounds(&c, len(n.trees), w)
		n.holdStays(&c, w)
	}
}

// P20.5: nets in which links go and come again, in the midst of rounds, till none does any more.
func TestNetsFail(t *testing.T) {
	c := chance(8)
	for i := range 150 {
		n := c.anyNet(t)
		w := way(i % ways)
		for range 3 {
			for range c.below(12) {
				if len(n.links) > 0 {
					n.set(c.below(len(n.links)), c.below(2) == 0)
				}
				n.rounds(&c, c.below(3), w)
			}
			n.settle(&c, w)
			n.holdStays(&c, w)
		}
	}
}

// P20.5: what was heard elsewhere, of better clocks that are not there, grows old; also if it was told on.
func TestNetsElsewhere(t *testing.T) {
	c := chance(9)
	for i := range 150 {
		n := c.anyNet(t)
		w := way(i % ways)
		n.rounds(&c, c.below(len(n.trees)+1), w)
		for range 1 + c.below(10) {
			m := ptp.Msg{Kind: ptp.Announce, Domain: 1, Src: 100 + c.below(3), Port: c.below(3), Best: ptp.Prior{Id: c.below(3)}, Steps: c.below(3)}
			for range c.below(5) {
				m.Path = append(m.Path, 1+c.below(40))
			}
			n.trees[c.below(len(n.trees))].In(c.below(8), m, n.now)
			n.rounds(&c, c.below(2), w)
		}
		n.settle(&c, w)
		n.holdStays(&c, w)
	}
}

// P20.5: the best clock goes, with all its links: those that are left find the next one; it comes again, and is the best one.
func TestBestGoes(t *testing.T) {
	for w := range way(ways) {
		c := chance(w)
		for _, count := range []int{2, 3, 5, 9} {
			n := newNet(t, inOrder(count), full(count)...)
			n.rounds(&c, count, w)
			n.holdStays(&c, w)
			for _, up := range []bool{false, true} {
				for i, l := range n.links {
					if l.ends[0].clock == 0 || l.ends[1].clock == 0 {
						n.set(i, up)
					}
				}
				n.settle(&c, w)
				n.holdStays(&c, w)
			}
		}
	}
}
