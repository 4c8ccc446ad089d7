package best_test

import (
	"slices"
	"testing"

	"sandglass/best"
	"sandglass/ptp"
)

var (
	own   = ptp.Prior{One: 5, Class: 5, Two: 5, Id: 50}
	root  = ptp.Prior{One: 3, Class: 9, Two: 9, Id: 99} // a better one
	lower = ptp.Prior{One: 4, Id: 70}                   // between both
	worse = ptp.Prior{One: 6, Id: 1}
)

// self is the vector where no better clock was heard.
var self = best.Vec{Root: own, Steps: 0, From: 50, Port: 0, At: -1}

// heard is what a port has heard whose link is there, not too long ago.
func heard(p ptp.Prior, steps, from, port int) best.Heard {
	return best.Heard{Up: true, Ok: true, Vec: best.Vec{Root: p, Steps: steps, From: from, Port: port}}
}

// without is what was heard, but that the link is there or isn't, and that it is old or isn't.
func without(h best.Heard, up, ok bool) best.Heard {
	h.Up, h.Ok = up, ok
	return h
}

// holdChoose holds Choose against what it must be.
func holdChoose(t *testing.T, own ptp.Prior, ports []best.Heard, want best.Vec, roles ...int) {
	t.Helper()
	kept := slices.Clone(ports[:cap(ports)])
	for range 2 {
		v, list := best.Choose(own, ports)
		if v != want || !slices.Equal(list, roles) {
			t.Errorf("Choose(%+v, %+v) is %+v, %v, not %+v, %v", own, ports, v, list, want, roles)
		}
		// What was answered is nobody else's.
		for at := range list[:cap(list)] {
			list[:cap(list)][at] = 77
		}
	}
	if !slices.Equal(ports[:cap(ports)], kept) {
		t.Errorf("Choose has changed %+v", ports)
	}
}

// P19.2: the chapter's example.
func TestExample(t *testing.T) {
	p := ptp.Prior{One: 3, Id: 9}
	holdChoose(t, ptp.Prior{One: 5, Id: 4}, []best.Heard{heard(p, 2, 7, 0), heard(p, 4, 8, 0)},
		best.Vec{Root: p, Steps: 2, From: 7}, best.Slave, best.Master)
}

// P19.2: no ports; none that is Up, none that is Ok; ports of which just one, or both, are so.
func TestChooseNone(t *testing.T) {
	h := heard(root, 2, 7, 3)
	found := best.Vec{Root: root, Steps: 2, From: 7, Port: 3, At: 0}
	holdChoose(t, own, nil, self)
	holdChoose(t, own, []best.Heard{}, self)
	holdChoose(t, own, []best.Heard{h, h}[:0], self)
	holdChoose(t, own, []best.Heard{{}}, self, best.Off)
	holdChoose(t, own, []best.Heard{{Up: true}}, self, best.Master)
	holdChoose(t, own, []best.Heard{{Ok: true}}, self, best.Off)
	holdChoose(t, own, []best.Heard{without(h, false, false)}, self, best.Off)
	holdChoose(t, own, []best.Heard{without(h, true, false)}, self, best.Master)
	holdChoose(t, own, []best.Heard{without(h, false, true)}, self, best.Off)
	holdChoose(t, own, []best.Heard{h}, found, best.Slave)
	holdChoose(t, own, []best.Heard{without(h, false, true), without(h, true, false), without(h, false, false)}, self, best.Off, best.Master, best.Off)
	found.At = 2
	holdChoose(t, own, []best.Heard{without(h, false, true), without(h, true, false), h}, found, best.Off, best.Master, best.Slave)
}

// P19.2: of no better clock the vector has the own Id as From, whatever it is.
func TestChooseSelf(t *testing.T) {
	for _, id := range numbers {
		p := ptp.Prior{One: 1, Class: 2, Two: 3, Id: id}
		holdChoose(t, p, nil, best.Vec{Root: p, From: id, At: -1})
		holdChoose(t, p, []best.Heard{{Up: true}}, best.Vec{Root: p, From: id, At: -1}, best.Master)
	}
}

// P19.2: a Root that is the own one, a worse one, and a better one by each of its numbers alone.
func TestChooseRoot(t *testing.T) {
	holdChoose(t, own, []best.Heard{heard(own, 0, 1, 0)}, self, best.Master)
	holdChoose(t, own, []best.Heard{heard(own, -5, -5, -5)}, self, best.Master)
	holdChoose(t, own, []best.Heard{heard(worse, -5, -5, -5)}, self, best.Master)
	for place := range 4 {
		x := [4]int{5, 5, 5, 50}
		x[place]++
		for behind := place + 1; behind < 4; behind++ {
			x[behind] = -9
		}
		holdChoose(t, own, []best.Heard{heard(prior(x), -9, -9, -9)}, self, best.Master)
		x[place] -= 2
		for behind := place + 1; behind < 4; behind++ {
			x[behind] = 999
		}
		holdChoose(t, own, []best.Heard{heard(prior(x), 9, 8, 7)}, best.Vec{Root: prior(x), Steps: 9, From: 8, Port: 7}, best.Slave)
	}
}

// P19.2: with a better one at another port, ports of the own Root or a worse one stay Master, also by few Steps.
func TestChooseBesideWorse(t *testing.T) {
	found := best.Vec{Root: root, Steps: 9, From: 8, Port: 7, At: 1}
	for _, p := range []ptp.Prior{own, worse, lower} {
		for _, steps := range []int{0, -3, 9, least, most} {
			holdChoose(t, own, []best.Heard{heard(p, steps, -1, -1), heard(root, 9, 8, 7), heard(p, steps, -1, -1)},
				found, best.Master, best.Slave, best.Master)
		}
	}
}

// P19.2: of two ports the better vector is chosen, by each of its numbers, those behind telling otherwise.
func TestChooseBest(t *testing.T) {
	for place := range 7 {
		a := [8]int{3, 3, 3, 3, 3, 3, 3}
		b := a
		b[place]++
		for behind := place + 1; behind < 7; behind++ {
			a[behind], b[behind] = 8, 2
		}
		v, w := vector(a), vector(b)
		for _, at := range []int{-1, 0, 1, 99} {
			// What At was handed in is nothing.
			v.At, w.At = at, -at
			x, y := best.Heard{Up: true, Ok: true, Vec: v}, best.Heard{Up: true, Ok: true, Vec: w}
			first, _ := best.Choose(own, []best.Heard{x, y})
			second, _ := best.Choose(own, []best.Heard{y, x})
			want := v
			want.At = 0
			if first != want {
				t.Errorf("of %+v and %+v the best is %+v", v, w, first)
			}
			want.At = 1
			if second != want {
				t.Errorf("of %+v and %+v the best is %+v", w, v, second)
			}
		}
	}
}

// P19.2: vectors that are the same but for their port's place: the first one is Slave, the others Passive.
func TestChooseSame(t *testing.T) {
	for size := 1; size <= 20; size++ {
		for first := range size {
			list := make([]best.Heard, size)
			roles := make([]int, size)
			for at := range list {
				list[at] = heard(root, 2, 7, 3)
				list[at].Vec.At = size - at // it is the place that counts
				roles[at] = best.Passive
				if at < first {
					list[at].Up = at%2 == 0
					list[at].Ok = at%2 == 1
					roles[at] = [...]int{best.Master, best.Off}[at%2]
				}
			}
			roles[first] = best.Slave
			holdChoose(t, own, list, best.Vec{Root: root, Steps: 2, From: 7, Port: 3, At: first}, roles...)
		}
	}
}

// P19.2: Passive just where a vector is better than the own one, which is one step more, from the own Id, at the port's place.
func TestPassive(t *testing.T) {
	found := best.Vec{Root: root, Steps: 2, From: 7, Port: 3, At: 0}
	for _, x := range []struct {
		steps, from, port int
		role              int
	}{
		{2, 7, 3, best.Passive},
		{2, 7, 4, best.Passive}, {2, 8, -9, best.Passive}, {2, 99, 99, best.Passive}, {2, 50, 2, best.Passive},
		{2, most, most, best.Passive},
		{3, 49, 99, best.Passive}, {3, least, most, best.Passive}, {3, 51, -9, best.Master}, {3, most, least, best.Master},
		// From the own Id: the port tells. Its place is 2.
		{3, 50, 1, best.Passive}, {3, 50, 2, best.Master}, {3, 50, 3, best.Master}, {3, 50, least, best.Passive}, {3, 50, most, best.Master},
		{4, 0, 0, best.Master}, {4, least, least, best.Master}, {most, least, least, best.Master},
	} {
		for _, at := range []int{0, -1, 1, least, most} {
			// At is 0 on both sides, whatever was handed in.
			h := heard(root, x.steps, x.from, x.port)
			h.Vec.At = at
			list := []best.Heard{heard(root, 2, 7, 3), {Up: true}, h}
			holdChoose(t, own, list, found, best.Slave, best.Master, x.role)
			list[2].Ok = false
			holdChoose(t, own, list, found, best.Slave, best.Master, best.Master)
			list[2].Up = false
			holdChoose(t, own, list, found, best.Slave, best.Master, best.Off)
			list[2].Ok = true
			holdChoose(t, own, list, found, best.Slave, best.Master, best.Off)
		}
	}
}

// P19.2: a port ahead of the chosen one may be Passive too; none is where the own clock is the best one.
func TestPassiveAhead(t *testing.T) {
	list := []best.Heard{heard(root, 3, 49, 0), heard(root, 3, 50, 0), heard(root, 3, 50, 2), heard(root, 2, 7, 3), heard(root, 3, 50, 3)}
	holdChoose(t, own, list, best.Vec{Root: root, Steps: 2, From: 7, Port: 3, At: 3},
		best.Passive, best.Passive, best.Master, best.Slave, best.Passive)
	top := ptp.Prior{One: 3, Class: 9, Two: 9, Id: 98}
	holdChoose(t, top, list, best.Vec{Root: top, From: 98, At: -1},
		best.Master, best.Master, best.Master, best.Master, best.Master)
}

// P19.2: numbers below 0, and at their ends: one step more than the most is still more.
func TestChooseEnds(t *testing.T) {
	for _, steps := range []int{least, least + 1, -2, -1, 0, most - 1, most} {
		found := best.Vec{Root: root, Steps: steps, From: -7, Port: -3, At: 0}
		first := heard(root, steps, -7, -3)
		holdChoose(t, own, []best.Heard{first, heard(root, steps, most, most)}, found, best.Slave, best.Passive)
		holdChoose(t, own, []best.Heard{first, heard(worse, steps, least, least)}, found, best.Slave, best.Master)
		holdChoose(t, own, []best.Heard{first, heard(lower, least, least, least)}, found, best.Slave, best.Master)
		if steps == most {
			continue
		}
		holdChoose(t, own, []best.Heard{first, heard(root, steps+1, 49, most)}, found, best.Slave, best.Passive)
		holdChoose(t, own, []best.Heard{first, heard(root, steps+1, 50, 0)}, found, best.Slave, best.Passive)
		holdChoose(t, own, []best.Heard{first, heard(root, steps+1, 50, 1)}, found, best.Slave, best.Master)
		holdChoose(t, own, []best.Heard{first, heard(root, steps+1, 51, least)}, found, best.Slave, best.Master)
	}
}

// P19.2: an own Id below 0, and a better clock whose numbers are all below 0.
func TestChooseBelow(t *testing.T) {
	low := ptp.Prior{One: -3, Class: -3, Two: -3, Id: -3}
	lower := ptp.Prior{One: -3, Class: -3, Two: -3, Id: -4}
	found := best.Vec{Root: lower, Steps: -2, From: -9, Port: -9, At: 1}
	list := []best.Heard{heard(low, -9, -9, -9), heard(lower, -2, -9, -9), heard(lower, -1, -4, 9), heard(lower, -1, -3, 3), heard(lower, -1, -3, 3), heard(lower, -1, -2, -9)}
	holdChoose(t, low, list, found, best.Master, best.Slave, best.Passive, best.Master, best.Passive, best.Master)
}

// P19.2: many ports, more than a bridge has.
func TestChooseMany(t *testing.T) {
	list := make([]best.Heard, 3000)
	roles := make([]int, len(list))
	for at := range list {
		list[at] = heard(root, 2+at%3, 50, at%7*500)
		roles[at] = best.Master
		if at%3 == 0 || at%3 == 1 && at%7*500 < at {
			roles[at] = best.Passive
		}
	}
	list[2000] = heard(root, 2, 50, -1)
	roles[2000] = best.Slave
	holdChoose(t, own, list, best.Vec{Root: root, Steps: 2, From: 50, Port: -1, At: 2000}, roles...)
}
