package window_test

import (
	"bytes"
	"math/rand"
	"slices"
	"testing"

	"wagonpool/api"
	"wagonpool/window"
)

// messages returns n messages of two or three bytes, which differ from each other as long as there are at most 65536.
func messages(n int) (l [][]byte) {
	for i := range n {
		l = append(l, []byte{byte(i >> 8), byte(i), 'm'}[:2+i%2])
	}
	return l
}

// long returns n bytes.
func long(n int) []byte { return bytes.Repeat([]byte("0123456789abcdef"), n/16+1)[:n] }

// early returns early messages with these numbers.
func early(numbers ...int) (l []api.Packet) {
	for _, seq := range numbers {
		l = append(l, api.Packet{Seq: seq, Data: []byte{'e', byte(seq)}})
	}
	return l
}

// upTo returns the numbers from one to another, which is included.
func upTo(from, to int) (l []int) {
	for n := from; n <= to; n++ {
		l = append(l, n)
	}
	return l
}

// plainPeer is a side whose fields differ from each other and are far from their bounds.
func plainPeer() api.Peer {
	return api.Peer{Epoch: 3, Other: 5, First: 100, Queue: messages(20), Next: 200, Early: early(201, 202, 205, 263), SentAt: 1000}
}

// with returns a copy of a side after a change.
func with(p api.Peer, change func(p *api.Peer)) api.Peer {
	p = deepPeer(p)
	change(&p)
	return p
}

// validPeers returns sides of which each field is at each end of its range.
func validPeers() (l []api.Peer) {
	plain := plainPeer()
	add := func(change func(p *api.Peer)) { l = append(l, with(plain, change)) }
	l = append(l, plain, api.Peer{}, api.Peer{Epoch: 3, Other: -1, SentAt: -1}, api.Peer{Epoch: 5, Other: 3, SentAt: -1})
	for _, n := range []int{0, 1, mostEpoch - 1, mostEpoch} {
		add(func(p *api.Peer) { p.Epoch = n })
		add(func(p *api.Peer) { p.Other = n })
		add(func(p *api.Peer) { p.SentAt = n })
	}
	add(func(p *api.Peer) { p.Other = -1 })
	add(func(p *api.Peer) { p.SentAt = -1 })
	for _, n := range []int{0, 1, 15, 16, 17, maxQueue - 1, maxQueue} {
		add(func(p *api.Peer) { p.Queue = messages(n) })
		add(func(p *api.Peer) { p.First, p.Queue = 0, messages(n) })
		add(func(p *api.Peer) { p.First, p.Queue = mostNext-n-1, messages(n) })
		add(func(p *api.Peer) { p.First, p.Queue = mostNext-n, messages(n) })
	}
	add(func(p *api.Peer) { p.Queue[0] = nil })
	add(func(p *api.Peer) { p.Queue[0] = long(mostBytes) })
	add(func(p *api.Peer) { p.Queue[19] = long(mostBytes) })
	for _, next := range []int{0, 1, 200, mostNext - 65, mostNext - 64} {
		add(func(p *api.Peer) { p.Next, p.Early = next, early() })
		add(func(p *api.Peer) { p.Next, p.Early = next, early(next+1) })
		add(func(p *api.Peer) { p.Next, p.Early = next, early(next+63) })
		add(func(p *api.Peer) { p.Next, p.Early = next, early(upTo(next+1, next+63)...) })
	}
	add(func(p *api.Peer) { p.Next, p.Early = mostNext-63, early(mostNext-1) })
	add(func(p *api.Peer) { p.Next, p.Early = mostNext-2, early(mostNext-1) })
	add(func(p *api.Peer) { p.Next, p.Early = mostNext-1, nil })
	add(func(p *api.Peer) { p.Next, p.Early = mostNext, nil })
	add(func(p *api.Peer) { p.Early[0].Data = nil })
	add(func(p *api.Peer) { p.Early[0].Data = long(mostBytes) })
	add(func(p *api.Peer) { p.Early[3].Data = long(mostBytes) })
	return l
}

// faultyPeers returns sides with one fault each.
func faultyPeers() (l []api.Peer) {
	plain := plainPeer()
	add := func(change func(p *api.Peer)) { l = append(l, with(plain, change)) }
	for _, n := range []int{-1, mostEpoch + 1, least, greatest} {
		add(func(p *api.Peer) { p.Epoch = n })
	}
	for _, n := range []int{-2, mostEpoch + 1, least, greatest} {
		add(func(p *api.Peer) { p.Other = n })
		add(func(p *api.Peer) { p.SentAt = n })
	}
	for _, n := range []int{-1, mostNext + 1, least, greatest} {
		add(func(p *api.Peer) { p.First, p.Queue = n, nil })
		add(func(p *api.Peer) { p.Next, p.Early = n, nil })
	}
	add(func(p *api.Peer) { p.First = -1 })
	add(func(p *api.Peer) { p.First = greatest })
	for _, n := range []int{1, 2, 20, maxQueue} {
		add(func(p *api.Peer) { p.First, p.Queue = mostNext-n+1, messages(n) })
		add(func(p *api.Peer) { p.First, p.Queue = mostNext, messages(n) })
	}
	for _, n := range []int{maxQueue + 1, 2 * maxQueue, 5000} {
		add(func(p *api.Peer) { p.Queue = messages(n) })
		add(func(p *api.Peer) { p.First, p.Queue = 0, messages(n) })
	}
	for _, i := range []int{0, 7, 19} {
		add(func(p *api.Peer) { p.Queue[i] = long(mostBytes + 1) })
		add(func(p *api.Peer) { p.Queue[i] = long(100000) })
	}
	for _, numbers := range [][]int{
		{202, 201}, {201, 205, 204, 206}, {201, 201}, {201, 205, 205, 206}, {263, 201}, {200}, {200, 201}, {199}, {201, 200}, {264}, {265}, {201, 264}, {-1}, {0}, {least}, {greatest}, {201, greatest},
	} {
		add(func(p *api.Peer) { p.Early = early(numbers...) })
	}
	for _, next := range []int{0, mostNext - 64} {
		add(func(p *api.Peer) { p.Next, p.Early = next, early(next) })
		add(func(p *api.Peer) { p.Next, p.Early = next, early(next+64) })
	}
	for back := range 64 {
		add(func(p *api.Peer) { p.Next, p.Early = mostNext-back, early(mostNext) })
	}
	add(func(p *api.Peer) { p.Next, p.Early = mostNext, early(mostNext+1) })
	for _, i := range []int{0, 2, 3} {
		add(func(p *api.Peer) { p.Early[i].Data = long(mostBytes + 1) })
		for _, n := range []int{-1, 1, 3, 5, 200, least, greatest} {
			add(func(p *api.Peer) { p.Early[i].Epoch = n })
			add(func(p *api.Peer) { p.Early[i].To = n })
			add(func(p *api.Peer) { p.Early[i].Ack = n })
		}
	}
	return l
}

// plainPacket is a packet that plainPeer accepts: it acknowledges two messages and has the next one.
func plainPacket() api.Packet {
	return api.Packet{Epoch: 5, To: 3, Seq: 200, Ack: 102, Data: []byte("next")}
}

// validPackets returns packets of which each field is at each end of its range.
func validPackets() (l []api.Packet) {
	for _, n := range []int{0, 1, 5, 6, mostEpoch - 1, mostEpoch} {
		k := plainPacket()
		k.Epoch = n
		l = append(l, k)
	}
	for _, n := range []int{least, -2, -1, 0, 2, 3, 4, 5, mostEpoch, mostEpoch + 1, greatest} {
		k := plainPacket()
		k.To = n
		l = append(l, k)
	}
	for _, n := range slices.Concat([]int{-1, 0, 1}, upTo(198, 207), upTo(261, 266), []int{mostNext - 2, mostNext - 1}) {
		k := plainPacket()
		k.Seq = n
		l = append(l, k)
	}
	for _, n := range slices.Concat([]int{0, 1}, upTo(98, 123), []int{mostNext - 1, mostNext}) {
		k := plainPacket()
		k.Ack = n
		l = append(l, k)
	}
	for _, n := range []int{0, 1, mostBytes - 1, mostBytes} {
		for _, seq := range []int{-1, 200, 203} {
			k := plainPacket()
			k.Seq, k.Data = seq, long(n)
			l = append(l, k)
		}
	}
	return append(l, api.Packet{}, api.Packet{Epoch: 5, To: 3, Seq: -1})
}

// faultyPackets returns packets with one fault each.
func faultyPackets() (l []api.Packet) {
	add := func(change func(k *api.Packet)) {
		for _, seq := range []int{-1, 200} {
			k := plainPacket()
			k.Seq = seq
			change(&k)
			l = append(l, k)
		}
	}
	for _, n := range []int{least, -1, mostEpoch + 1, greatest} {
		add(func(k *api.Packet) { k.Epoch = n })
	}
	for _, n := range []int{least, -2, mostNext, mostNext + 1, greatest} {
		add(func(k *api.Packet) { k.Seq = n })
	}
	for _, n := range []int{least, -1, mostNext + 1, greatest} {
		add(func(k *api.Packet) { k.Ack = n })
	}
	add(func(k *api.Packet) { k.Data = long(mostBytes + 1) })
	add(func(k *api.Packet) { k.Data = long(100000) })
	return l
}

// randomPeer returns a valid side with small numbers or with great ones.
func randomPeer(r *rand.Rand) api.Peer {
	p := api.Peer{Epoch: r.Intn(4), Other: r.Intn(5) - 1, First: r.Intn(20), Next: r.Intn(20), SentAt: r.Intn(30) - 1}
	if r.Intn(4) == 0 {
		p.First, p.Next = mostNext-40+r.Intn(20), mostNext-r.Intn(80)
	}
	p.Queue = messages(r.Intn(20))
	for seq := p.Next + 1; seq < p.Next+64 && seq < mostNext; seq += 1 + r.Intn(9) {
		if r.Intn(2) == 0 {
			p.Early = append(p.Early, early(seq)...)
		}
	}
	return p
}

// randomPacket returns a packet that p most likely accepts.
func randomPacket(r *rand.Rand, p api.Peer) api.Packet {
	return api.Packet{
		Epoch: max(0, p.Other) + (r.Intn(12)+1)/12 - (r.Intn(12)+1)/12,
		To:    p.Epoch - (r.Intn(8)+1)/8,
		Seq:   p.Next + []int{0, 0, r.Intn(3) - 1, r.Intn(70) - 3}[r.Intn(4)],
		Ack:   p.First + r.Intn(len(p.Queue)+3) - 1,
		Data:  long(r.Intn(5)),
	}
}

// The samples are what they are meant to be.
func TestSamples(t *testing.T) {
	for _, p := range validPeers() {
		if l := faultsOf(p); len(l) > 0 {
			t.Fatalf("%s is faulty: %v", shown(p), l)
		}
	}
	for _, p := range faultyPeers() {
		if l := faultsOf(p); len(l) == 0 {
			t.Fatalf("%s is not faulty", shown(p))
		}
	}
	for _, k := range validPackets() {
		if faulty(k) {
			t.Fatalf("%s is faulty", shownPacket(k))
		}
	}
	for _, k := range faultyPackets() {
		if !faulty(k) {
			t.Fatalf("%s is not faulty", shownPacket(k))
		}
	}
	r := rand.New(rand.NewSource(1))
	effects := 0
	for range 1000 {
		p := randomPeer(r)
		if l := faultsOf(p); len(l) > 0 {
			t.Fatalf("%s is faulty: %v", shown(p), l)
		}
		if x, _, _ := window.Accept(p, randomPacket(r, p)); !samePeer(x, p) {
			effects++
		}
	}
	if effects < 500 {
		t.Fatalf("only %d of 1000 packets have an effect", effects)
	}
}
