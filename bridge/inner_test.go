package bridge

import (
	"testing"

	"sandglass/api"
	"sandglass/ether"
	"sandglass/fdb"
	"sandglass/ptp"
	"sandglass/sieve"
)

// tagging is a node of four ports, at some of which frames of VLAN 1 go out with a tag. None that New makes has such: all of VLAN 1 are Bare there.
func tagging(t *testing.T, bare int) *Bridge {
	t.Helper()
	p := ptp.Prior{Id: 5}
	b, err := New(Conf{Id: 5, Ports: 4, Relay: true, Prior: [2]ptp.Prior{p, p}, Every: 1000})
	if err != api.OK {
		t.Fatalf("New is %d", err)
	}
	if err := b.table.SetVlan(common, fdb.Vlan{Ports: 15, Bare: bare}); err != api.OK {
		t.Fatalf("SetVlan is %d", err)
	}
	return b
}

// sized is a frame of so many bytes, without a tag, that goes everywhere.
func sized(t *testing.T, size int) []byte {
	t.Helper()
	x, err := ether.Encode(ether.Frame{Dst: api.Mac{255}, Src: api.Mac{2}, Type: 0x900, Data: make([]byte, size-20)})
	if err != api.OK || len(x) != size {
		t.Fatalf("Encode is %d bytes, %d", len(x), err)
	}
	return x
}

// P23.4: a frame goes out with a tag, or, at a port that is Bare, without; one that is too long with its tag doesn't go out there; Bad, if it goes out nowhere for that.
func TestTooLongWithTag(t *testing.T) {
	for _, c := range []struct{ size, bare, outs, bad int }{
		{1596, 0, 14, 0}, {1596, 15, 14, 0}, {1596, 4, 14, 0},
		{1597, 0, 0, 1}, {1597, 15, 14, 0}, {1597, 4, 4, 0}, {1597, 1, 0, 1}, {1597, 10, 10, 0},
		{1600, 0, 0, 1}, {1600, 15, 14, 0}, {1600, 8, 8, 0},
	} {
		b := tagging(t, c.bare)
		list, own := b.In(0, sized(t, c.size), 0)
		outs := 0
		for _, x := range list {
			outs |= 1 << x.Port
			f, err := ether.Decode(x.Bytes)
			isBare := c.bare&(1<<x.Port) != 0
			want := c.size + 4
			if isBare {
				want = c.size
			}
			if err != api.OK || f.Tagged == isBare || f.Tagged && f.Vid != 1 || len(x.Bytes) != want {
				t.Errorf("of %+v goes out %d bytes, %+v", c, len(x.Bytes), f)
			}
		}
		if outs != c.outs || len(own) != 0 || b.counts != [Whys]int{Bad: c.bad} {
			t.Errorf("of %+v goes out %b, counts are %d", c, outs, b.counts)
		}
	}
}

// P23.4: the tag's priority is the class, and it may be dropped as it might.
func TestTag(t *testing.T) {
	b := tagging(t, 0)
	for prio, class := range []int{0, 1, 2, 3, 4, 5, 5, 5} {
		for _, drop := range []bool{false, true} {
			x, _ := ether.Encode(ether.Frame{Dst: api.Mac{255}, Src: api.Mac{2}, Tagged: true, Prio: prio, Drop: drop, Type: 0x900})
			list, _ := b.In(0, x, 0)
			if len(list) != 3 {
				t.Fatalf("it goes out %d times", len(list))
			}
			for _, o := range list {
				f, _ := ether.Decode(o.Bytes)
				if !f.Tagged || f.Vid != 1 || f.Prio != class || f.Drop != drop || o.Class != class || o.Drop != drop {
					t.Errorf("of priority %d goes out %+v, %+v", prio, o, f)
				}
			}
		}
	}
}

// P23.4: what layer 12 tells has a count of its own. Frames of streams without gates and meters are never Closed, Fast or Blocked.
func TestWhy(t *testing.T) {
	for kind, want := range map[int]int{sieve.Long: Long, sieve.Closed: Closed, sieve.Fast: Fast, sieve.Blocked: Blocked} {
		if got := why(kind); got != want {
			t.Errorf("why(%d) is %d, not %d", kind, got, want)
		}
	}
}

// P23.3: no more marks are kept than need be known.
func TestMarksKept(t *testing.T) {
	b := tagging(t, 0)
	b.Link(0, true)
	for range 5000 {
		b.Tick(0)
		if len(b.marked) > 1000 {
			t.Fatalf("%d marks are kept", len(b.marked))
		}
	}
}
