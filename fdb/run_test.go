package fdb_test

import (
	"testing"

	"sandglass/api"
	"sandglass/fdb"
)

// known is where an address is, in a plain table.
type known struct {
	good bool
	at   [8]bool
	now  int
}

// plain is a table as one plain map for each thing, with sets as lists of which port is in them.
type plain struct {
	n, room int
	ports   map[int][8]bool
	bare    map[int][8]bool
	in      map[int]fdb.Port
	known   map[fdb.Place]known
}

func newPlain(n, room int) *plain {
	p := &plain{n: n, room: room, ports: map[int][8]bool{}, bare: map[int][8]bool{}, in: map[int]fdb.Port{}, known: map[fdb.Place]known{}}
	for at := range n {
		p.in[at] = fdb.Port{Vid: 1, Prio: same()}
	}
	return p
}

// list is a set as which port is in it; false, if one isn't there.
func (p *plain) list(set int) ([8]bool, bool) {
	var list [8]bool
	for at := range 64 {
		if set>>at&1 == 0 {
			continue
		}
		if at >= p.n {
			return list, false
		}
		list[at] = true
	}
	return list, true
}

// set is a list as bits.
func set(list [8]bool) int {
	sum := 0
	for at, is := range list {
		if is {
			sum += 1 << at
		}
	}
	return sum
}

func (p *plain) setVlan(x int, v fdb.Vlan) api.Errno {
	ports, ok := p.list(v.Ports)
	bare, okBare := p.list(v.Bare)
	if x < 1 || x > 4094 || !ok || !okBare {
		return api.ErrArg
	}
	for at := range 8 {
		if bare[at] && !ports[at] {
			return api.ErrArg
		}
	}
	p.ports[x], p.bare[x] = ports, bare
	return api.OK
}

func (p *plain) setPort(at int, x fdb.Port) api.Errno {
	if _, ok := p.in[at]; !ok {
		return api.ErrPort
	}
	for _, prio := range append(x.Prio[:], 0) {
		if prio < 0 || prio > 7 || x.Vid < 1 || x.Vid > 4094 {
			return api.ErrArg
		}
	}
	p.in[at] = x
	return api.OK
}

func (p *plain) setPlace(place fdb.Place, ports int) api.Errno {
	list, ok := p.list(ports)
	if place.Vid < 1 || place.Vid > 4094 || !ok {
		return api.ErrArg
	}
	if ports == 0 {
		delete(p.known, place)
		return api.OK
	}
	if _, ok := p.known[place]; !ok && len(p.known) >= p.room {
		return api.ErrFull
	}
	p.known[place] = known{good: true, at: list}
	return api.OK
}

func (p *plain) learn(place fdb.Place, at, now int) api.Errno {
	if place.Vid < 1 || place.Vid > 4094 {
		return api.ErrArg
	}
	if _, ok := p.in[at]; !ok {
		return api.ErrPort
	}
	if place.Mac[0]%2 == 1 {
		return api.ErrKind
	}
	k, ok := p.known[place]
	if k.good {
		return api.OK
	}
	if !ok && len(p.known) >= p.room {
		return api.ErrFull
	}
	k = known{now: now}
	k.at[at] = true
	p.known[place] = k
	return api.OK
}

// forget drops those that were seen and are so.
func (p *plain) forget(is func(known) bool) int {
	was := p.known
	p.known = map[fdb.Place]known{}
	for place, k := range was {
		if k.good || !is(k) {
			p.known[place] = k
		}
	}
	return len(was) - len(p.known)
}

func (p *plain) frameIn(f frame) (int, int, api.Errno) {
	if f.vid < 0 || f.vid > 4094 || f.prio < 0 || f.prio > 7 {
		return 0, 0, api.ErrArg
	}
	in, ok := p.in[f.at]
	if !ok {
		return 0, 0, api.ErrPort
	}
	vid, prio := in.Vid, in.Prio[0]
	if f.tagged {
		prio = in.Prio[f.prio]
		if f.vid != 0 {
			vid = f.vid
		}
	}
	if !p.ports[vid][f.at] {
		return 0, 0, api.ErrVlan
	}
	return vid, prio, api.OK
}

func (p *plain) out(at int, place fdb.Place) (int, int) {
	var ports, bare [8]bool
	if _, ok := p.in[at]; !ok {
		return 0, 0
	}
	k, ok := p.known[place]
	for i := range p.n {
		if i != at && p.ports[place.Vid][i] && (!ok || k.at[i]) {
			ports[i], bare[i] = true, p.bare[place.Vid][i]
		}
	}
	return set(ports), set(bare)
}

// chance is a row of numbers that looks like one at random, always the same.
type chance uint64

func (c *chance) below(n int) int {
	*c = *c*6364136223846793005 + 1442695040888963407
	return int(*c>>33) % n
}

// vid is mostly one of a few VLANs, seldom one that can't be.
func (c *chance) vid() int {
	if c.below(20) == 0 {
		wrong := wrongVids()
		return wrong[c.below(len(wrong))]
	}
	vids := [...]int{1, 2, 5, 4094}
	return vids[c.below(len(vids))]
}

// ports is mostly a set of the ports of a table that has n, seldom none.
func (c *chance) ports(n int) int {
	if c.below(20) == 0 {
		wrong := wrongSets(n)
		return wrong[c.below(len(wrong))]
	}
	return c.below(1 << n)
}

// place is one of so many addresses, a few of them of several places.
func (c *chance) place(many int) fdb.Place {
	x := c.below(many)
	m := api.Mac{byte(x>>7) << 1, 0, byte(x)}
	if c.below(20) == 0 {
		m[0] |= 1
	}
	return fdb.Place{Vid: c.vid(), Mac: m}
}

// port is how frames come in, seldom wrong.
func (c *chance) port() fdb.Port {
	p := fdb.Port{Vid: c.vid()}
	for i := range p.Prio {
		p.Prio[i] = c.below(8)
	}
	if c.below(10) == 0 {
		p.Prio[c.below(8)] = c.below(4) * -7
	}
	return p
}

// step does one thing to both, and tells whether they answer the same.
func step(c *chance, x *fdb.Table, p *plain, many, now int) bool {
	at := c.below(p.n+2) - 1
	switch kind := c.below(1000); {
	case kind < 30:
		vid, v := c.vid(), fdb.Vlan{Ports: c.ports(p.n)}
		v.Bare = v.Ports & c.below(256)
		if c.below(10) == 0 {
			v.Bare = c.ports(p.n)
		}
		return x.SetVlan(vid, v) == p.setVlan(vid, v)
	case kind < 50:
		in := c.port()
		return x.SetPort(at, in) == p.setPort(at, in)
	case kind < 150:
		place, ports := c.place(many), c.ports(p.n)
		return x.SetPlace(place, ports) == p.setPlace(place, ports)
	case kind < 500:
		place, when := c.place(many), now-c.below(20)
		return x.Learn(place, at, when) == p.learn(place, at, when)
	case kind < 510:
		since := now - c.below(300)
		return x.Age(since) == p.forget(func(k known) bool { return k.now < since })
	case kind < 520:
		x.Flush(at)
		p.forget(func(k known) bool { return at >= 0 && at < p.n && k.at[at] })
		return true
	case kind < 700:
		f := frame{at, c.below(2) == 0, c.below(6), c.below(10) - 1}
		if f.vid == 4 {
			f.vid = c.vid()
		}
		vid, prio, err := x.In(f.at, f.tagged, f.vid, f.prio)
		wantVid, wantPrio, want := p.frameIn(f)
		return vid == wantVid && prio == wantPrio && err == want
	}
	place := c.place(many)
	ports, bare := x.Out(at, place)
	wantPorts, wantBare := p.out(at, place)
	return ports == wantPorts && bare == wantBare
}

// P9.1, P9.2, P9.3: long runs of all calls, held against plain maps.
func TestLongRuns(t *testing.T) {
	for seed, size := range []struct{ n, room, many int }{
		{1, 5, 4}, {2, 0, 4}, {3, 9, 8}, {4, 40, 40}, {5, 100, 20}, {8, 300, 200}, {8, 4096, 2000}, {7, 1, 3},
	} {
		c := chance(seed + 1)
		x, p := newTable(t, size.n, size.room), newPlain(size.n, size.room)
		for now := range 30000 {
			was := c
			if !step(&c, x, p, size.many, now) {
				t.Fatalf("%v: step %d (from %d) is another one than by plain maps", size, now, was)
			}
			if x.Len() != len(p.known) {
				t.Fatalf("%v: behind step %d Len is %d, not %d", size, now, x.Len(), len(p.known))
			}
		}
	}
}
