package bridge

import (
	"slices"

	"sandglass/api"
	"sandglass/ether"
	"sandglass/fdb"
	"sandglass/sieve"
	"sandglass/stamp"
)

// way is how a frame goes on: in which VLAN and class, at which ports, and at which of these without a tag.
type way struct {
	vid   int
	class int
	ports int
	bare  int
}

// In takes a frame that came in at a port, at a time of the clock: what goes out, and, of a node that lets nothing pass, what is for itself.
func (b *Bridge) In(port int, bytes []byte, here stamp.Stamp) ([]Out, []ether.Frame) {
	if !b.hasPort(port) {
		return nil, nil
	}
	f, err := ether.Decode(bytes)
	switch {
	case err != api.OK:
		b.counts[Bad]++
		return nil, nil
	case f.Dst == PtpMac():
		return b.hear(port, f, here), nil
	case !b.conf.Relay:
		return nil, []ether.Frame{f}
	}
	return b.pass(port, f, here), nil
}

// pass lets a frame go on, or counts why it doesn't.
func (b *Bridge) pass(port int, f ether.Frame, here stamp.Stamp) []Out {
	vid, prio, err := b.table.In(port, f.Tagged, f.Vid, f.Prio)
	if err != api.OK {
		b.counts[Vlan]++
		return nil
	}
	i, class, _, kind := b.sieve.In(here.Floor(), port, vid, f.Dst, f.Src, prio, f.Size())
	switch {
	case kind == sieve.Pass:
		return b.send(f, way{vid: vid, class: class, ports: b.conf.Flows[i].Outs})
	case kind != sieve.Other:
		b.counts[why(kind)]++
		return nil
	case b.isFlows(vid):
		b.counts[Forged]++
		return nil
	}
	b.table.Learn(fdb.Place{Vid: vid, Mac: f.Src}, port, int(here))
	ports, bare := b.table.Out(port, fdb.Place{Vid: vid, Mac: f.Dst})
	return b.send(f, way{vid: vid, class: min(class, Rest), ports: ports, bare: bare})
}

// send is a frame at each port at which it goes out.
func (b *Bridge) send(f ether.Frame, w way) []Out {
	if w.ports == 0 {
		b.counts[Nowhere]++
		return nil
	}
	var list []Out
	for port := range b.conf.Ports {
		bit := 1 << port
		if w.ports&bit == 0 {
			continue
		}
		// One that came without a tag may be too long with it.
		bytes, err := ether.Encode(w.frame(f, w.bare&bit != 0))
		if err == api.OK {
			list = append(list, Out{Port: port, Class: w.class, Drop: f.Drop, Bytes: bytes})
		}
	}
	if len(list) == 0 {
		b.counts[Bad]++
	}
	return list
}

// frame is a frame as it goes out: with a tag, or bare.
func (w way) frame(f ether.Frame, bare bool) ether.Frame {
	if bare {
		f.Tagged, f.Vid, f.Prio, f.Drop = false, 0, 0, false
		return f
	}
	f.Tagged, f.Vid, f.Prio = true, w.vid, w.class
	return f
}

// isFlows tells whether a VLAN is that of a flow.
func (b *Bridge) isFlows(vid int) bool {
	return slices.ContainsFunc(b.conf.Flows, func(f Flow) bool { return f.Vid == vid })
}

// why is what layer 12 tells of a frame that doesn't pass.
func why(kind int) int {
	switch kind {
	case sieve.Long:
		return Long
	case sieve.Closed:
		return Closed
	case sieve.Fast:
		return Fast
	}
	return Blocked
}
