package host_test

import (
	"bytes"
	"testing"

	"sandglass/api"
	"sandglass/bridge"
	"sandglass/host"
	"sandglass/ptp"
)

// P24.2: there must be such an end, and it must send; that is told ahead of data that are too long.
func TestSendNone(t *testing.T) {
	talk := talks(9, mac1, 0, 1)
	h := newHost(t, conf(8), 1000, talk, takes(9, mac1, 0, 1), talk, takes(9, mac2, 2, 3))
	for _, i := range append([]int{1, 3, 4, 5, 7}, strangers...) {
		for _, n := range []int{0, 1, 1500, 1501} {
			holdNoSend(t, h, i, make([]byte, n), api.ErrNone)
		}
	}
	empty := newHost(t, conf(8), 1000)
	for _, i := range append([]int{0, 1}, strangers...) {
		holdNoSend(t, empty, i, nil, api.ErrNone)
	}
	// None of these had a number.
	holdSend(t, h, 0, talk, 0, nil)
	holdSend(t, h, 2, talk, 0, nil)
}

// P24.2: data of up to 1500 bytes go out; more are ErrLong, and have no number.
func TestSendLong(t *testing.T) {
	talk := talks(4094, mac1, 2, 1)
	h := newHost(t, conf(3), 1000, talk)
	seq := 0
	for _, n := range []int{1501, 0, 1, 33, 34, 35, 1499, 1500, 1501, 1502, 1570, 1571, 1 << 16, 1500, 0} {
		data := bytes.Repeat([]byte{byte(n) | 1}, n)
		if n > 1500 {
			holdNoSend(t, h, 0, data, api.ErrLong)
			continue
		}
		holdSend(t, h, 0, talk, seq, data)
		seq++
	}
	holdSend(t, h, 0, talk, seq, nil)
}

// P24.2: what goes out does so at both ports, the first one first, whichever of them is the greater, be there links or not, and whatever else is said of its flow.
func TestSendPorts(t *testing.T) {
	for a := range 8 {
		for b := range 8 {
			if a == b {
				continue
			}
			talk := talks(2+a, api.Mac{byte(a), 2, 3, 4, 5, byte(b)}, a, b)
			talk.Flow.In, talk.Flow.Outs, talk.Flow.Max = b, 1<<a, 64
			h := newHost(t, conf(8), 1000, talk)
			holdSend(t, h, 0, talk, 0, make([]byte, 100))
			h.Node().Link(b, true)
			holdSend(t, h, 0, talk, 1, []byte("data"))
		}
	}
}

// P24.2: it goes out from the address of the Id.
func TestSendSrc(t *testing.T) {
	for id, src := range map[int]api.Mac{1: {0, 0, 0, 0, 0, 1}, 0x010203040506: {1, 2, 3, 4, 5, 6}, 1<<48 - 1: {255, 255, 255, 255, 255, 255}} {
		c := conf(2)
		c.Id, c.Prior = id, [2]ptp.Prior{{Id: id}, {Id: id}}
		h := newHost(t, c, 1000, talks(9, mac1, 1, 0))
		outs, _, _ := h.Send(0, nil)
		want, _ := bridge.Numbered(bridge.Flow{Vid: 9, Mac: mac1}, src, 0, nil)
		for _, x := range outs {
			if !bytes.Equal(x.Bytes, want) {
				t.Errorf("of Id %d goes out %v", id, x.Bytes)
			}
		}
		if len(outs) != 2 {
			t.Errorf("it goes out %d times", len(outs))
		}
	}
}

// P24.2: the numbers go from 0 on up to 65535, and begin anew.
func TestSendNumbers(t *testing.T) {
	talk := talks(9, mac1, 0, 1)
	h := newHost(t, conf(2), 1000, talks(9, mac2, 0, 1), talk)
	for n := range 65536 + 3 {
		if n > 2 && n < 65533 {
			if _, seq, err := h.Send(1, nil); seq != n || err != api.OK {
				t.Fatalf("the number is %d, %d, not %d", seq, err, n)
			}
			continue
		}
		holdSend(t, h, 1, talk, n%65536, []byte{byte(n)})
	}
}

// P24.2: each end has numbers of its own, though several are of one flow, or one's number is refused.
func TestSendEachEnd(t *testing.T) {
	ends := []host.End{talks(9, mac1, 0, 1), takes(9, mac1, 0, 1), talks(9, mac1, 0, 1), talks(10, mac1, 1, 2), talks(9, mac2, 2, 0)}
	h := newHost(t, conf(3), 1000, ends...)
	numbers := make([]int, len(ends))
	for n := range 200 {
		i := []int{0, 4, 2, 0, 3, 1, 4, 4, 2, 0}[n%10]
		if i == 1 {
			holdNoSend(t, h, i, nil, api.ErrNone)
			continue
		}
		if n%3 == 0 {
			holdNoSend(t, h, i, make([]byte, 1501), api.ErrLong)
		}
		holdSend(t, h, i, ends[i], numbers[i], []byte("data"))
		numbers[i]++
		// What is taken has nothing to do with what is sent.
		holdIn(t, h, 0, encode(t, flowing(9, mac1, n)), 0, taken(1, n))
	}
}

// P24.2: what goes out at one port shares nothing with what does at the other, nor with the data, nor with what goes out later.
func TestSendShares(t *testing.T) {
	talk := talks(9, mac1, 0, 1)
	h := newHost(t, conf(2), 1000, talk)
	data := make([]byte, 100, 200)
	outs := holdSend(t, h, 0, talk, 0, data)
	clear(outs[0].Bytes)
	want, _ := bridge.Numbered(talk.Flow, api.Mac{5: 5}, 0, make([]byte, 100))
	if !bytes.Equal(outs[1].Bytes, want) {
		t.Error("both share their bytes")
	}
	clear(outs[1].Bytes)
	if !bytes.Equal(data, make([]byte, 100)) || !bytes.Equal(data[100:200], make([]byte, 100)) {
		t.Error("Send turned what was handed in")
	}
	data[0] = 7
	outs[0], outs[1] = bridge.Out{}, bridge.Out{}
	holdSend(t, h, 0, talk, 1, make([]byte, 100))
}
