package bridge

import (
	"sandglass/api"
	"sandglass/best"
	"sandglass/ether"
	"sandglass/ptp"
	"sandglass/stamp"
)

// seqs is how many numbers ticks have, from 0 on.
const seqs = 1 << 16

// placeTicks is for how many ticks an address is known that isn't seen any more.
const placeTicks = 300

// mostMarks is how many marks behind the last one a mark is forgotten: its frame may have got lost ahead of going out.
const mostMarks = 1000

// Tick lets the node tell what is to be told, at a time of its clock.
func (b *Bridge) Tick(here stamp.Stamp) []Out {
	if b == nil {
		return nil
	}
	b.seq = (b.seq + 1) % seqs
	b.age(here)
	var list []Out
	for d := range domains {
		list = append(list, b.tell(d, here)...)
	}
	return append(list, b.ask()...)
}

// Sent tells when a marked frame went out.
func (b *Bridge) Sent(mark int, here stamp.Stamp) []Out {
	if b == nil {
		return nil
	}
	x, ok := b.marked[mark]
	if !ok {
		return nil
	}
	delete(b.marked, mark)
	var more ptp.Msg
	switch x.m.Kind {
	case ptp.Req:
		b.peers[x.port].Sent(x.m.Seq, here)
		return nil
	case ptp.Resp:
		more, ok = b.peers[x.port].More(x.m, here)
	case ptp.Sync:
		more, ok = b.pair.Tell(x.m.Domain, x.m.Seq, b.conf.Id, x.port, here)
	}
	if !ok {
		return nil
	}
	return []Out{b.message(x.port, more)}
}

// age forgets the addresses that weren't seen for too long.
func (b *Bridge) age(here stamp.Stamp) {
	since, err := here.Sub(stamp.Stamp(placeTicks*b.conf.Every) * stamp.Unit)
	// If there is no such time, none can have been seen ahead of it.
	if err == api.OK {
		b.table.Age(int(since))
	}
}

// tell is what a tick tells in a domain.
func (b *Bridge) tell(d int, here stamp.Stamp) []Out {
	t, now := b.trees[d], here.Floor()
	own := t.Root(now)
	b.pair.Root(d, own, here)
	known := own || b.pair.Fresh(d, here)
	_, roles := t.Best(now)
	var list []Out
	for port, role := range roles {
		if m, ok := t.Out(port, b.seq, now); ok {
			list = append(list, b.message(port, m))
		}
		if role == best.Master && known {
			m := ptp.Msg{Kind: ptp.Sync, Domain: d, Seq: b.seq, Src: b.conf.Id, Port: port}
			list = append(list, b.noted(port, m))
		}
	}
	return list
}

// ask is each port's question. Where there is no link it is asked, too, so that it fails.
func (b *Bridge) ask() []Out {
	var list []Out
	for port, p := range b.peers {
		m, ok := p.Ask()
		if ok && b.up[port] {
			list = append(list, b.noted(port, m))
		}
	}
	return list
}

// hear takes what came to where messages go.
func (b *Bridge) hear(port int, f ether.Frame, here stamp.Stamp) []Out {
	m, err := ptp.Decode(f.Data)
	if f.Type != ether.TypePtp || err != api.OK {
		b.counts[Bad]++
		return nil
	}
	p := b.peers[port]
	switch m.Kind {
	case ptp.Req:
		if answer, ok := p.Answer(m, here); ok {
			return []Out{b.noted(port, answer)}
		}
	case ptp.Resp, ptp.RespMore:
		p.In(m, here)
	default:
		if isDomain(m.Domain) && p.Able() {
			b.learn(port, m, here)
		}
	}
	return nil
}

// learn takes what is told of a domain's clock.
func (b *Bridge) learn(port int, m ptp.Msg, here stamp.Stamp) {
	t, now := b.trees[m.Domain], here.Floor()
	if m.Kind == ptp.Announce {
		t.In(port, m, now)
		return
	}
	if v, _ := t.Best(now); v.At != port {
		return
	}
	if m.Kind == ptp.Sync {
		b.pair.Sync(m, here)
		return
	}
	p := b.peers[port]
	b.pair.Follow(m, p.Delay(), p.Rate())
}

// noted is a message that is to go out, with a mark of its own.
func (b *Bridge) noted(port int, m ptp.Msg) Out {
	b.mark++
	b.marked[b.mark] = marked{port, m}
	delete(b.marked, b.mark-mostMarks)
	x := b.message(port, m)
	x.Mark = b.mark
	return x
}

// message is a message that is to go out, as a frame.
func (b *Bridge) message(port int, m ptp.Msg) Out {
	// The layers below tell right messages, and none is longer than a frame.
	data, _ := ptp.Encode(m)
	bytes, _ := ether.Encode(ether.Frame{Dst: PtpMac(), Src: ether.Of(b.conf.Id), Type: ether.TypePtp, Data: data})
	return Out{Port: port, Class: Time, Bytes: bytes}
}
