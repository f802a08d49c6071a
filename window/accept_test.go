package window_test

import (
	"bytes"
	"math/rand"
	"slices"
	"testing"

	"wagonpool/api"
	"wagonpool/window"
)

// P12.4: sides and packets that are not valid have no effect.
func TestAcceptValidity(t *testing.T) {
	valid := validPackets()
	for _, p := range faultyPeers() {
		for _, k := range []api.Packet{plainPacket(), valid[0], {Epoch: 9, To: p.Epoch, Seq: p.Next, Ack: p.First + 1}, {Epoch: mostEpoch, To: 3}, {}} {
			checkAccepted(t, p, k, p, nil, false)
		}
	}
	for _, k := range faultyPackets() {
		for _, p := range []api.Peer{plainPeer(), {Epoch: 3, Other: -1, SentAt: -1}, {Epoch: 3, Other: 5, Next: 200}, {}} {
			checkAccepted(t, p, k, p, nil, false)
		}
	}
	for _, p := range validPeers() {
		for _, k := range valid {
			accept(t, p, k)
		}
	}
}

// P12.4: an epoch that is less has no effect, and one that is greater resets the side.
func TestAcceptEpochs(t *testing.T) {
	for _, other := range []int{-1, 0, 1, 5, mostEpoch - 1, mostEpoch} {
		p := with(plainPeer(), func(p *api.Peer) { p.Other = other })
		for _, epoch := range []int{0, 1, 4, 5, 6, mostEpoch - 1, mostEpoch} {
			k := plainPacket()
			k.Epoch = epoch
			x, l, reset := accept(t, p, k)
			if reset != (epoch > other) || x.Other != max(other, epoch) || (len(l) > 0) != (epoch == other) {
				t.Fatalf("%s accepts %s: %s, %s, %v", shown(p), shownPacket(k), shown(x), shownMessages(l), reset)
			}
			if epoch < other && !samePeer(x, p) {
				t.Fatalf("%s accepts %s: %s", shown(p), shownPacket(k), shown(x))
			}
		}
	}
}

// P12.4: a side that is reset is as it was at first, but for the epoch of the other one; the packet is then processed.
func TestAcceptReset(t *testing.T) {
	for _, p := range validPeers() {
		if p.Other == mostEpoch {
			continue
		}
		for _, to := range []int{p.Epoch, p.Epoch + 1, p.Epoch - 1, -1} {
			for _, k := range []api.Packet{{Seq: -1}, {Seq: 0}, {Seq: 1}, {Seq: 63}, {Seq: 64}, {Seq: min(p.Next, mostNext-1)}, {Seq: -1, Ack: 1}, {Seq: -1, Ack: min(p.First+1, mostNext)}} {
				k.Epoch, k.To, k.Data = p.Other+1, to, []byte("new")
				want, messages := api.Peer{Epoch: p.Epoch, Other: p.Other + 1, SentAt: -1}, [][]byte{}
				if to == p.Epoch && k.Seq == 0 {
					want.Next, messages = 1, [][]byte{k.Data}
				} else if to == p.Epoch && k.Seq > 0 && k.Seq < 64 {
					want.Early = []api.Packet{{Seq: k.Seq, Data: k.Data}}
				}
				checkAccepted(t, p, k, want, messages, true)
			}
		}
	}
}

// P12.4: a packet for another epoch of this side has no further effect.
func TestAcceptTo(t *testing.T) {
	for _, to := range []int{least, -1, 0, 2, 4, 5, mostEpoch, mostEpoch + 1, greatest} {
		for _, epoch := range []int{0, 4, 5} {
			k := plainPacket()
			k.Epoch, k.To = epoch, to
			checkAccepted(t, plainPeer(), k, plainPeer(), nil, false)
		}
	}
	for _, epoch := range []int{0, 3, mostEpoch} {
		p := with(plainPeer(), func(p *api.Peer) { p.Epoch = epoch })
		k := plainPacket()
		k.To = epoch
		if x, l, _ := accept(t, p, k); x.First != 102 || len(l) != 3 {
			t.Fatalf("%s accepts %s: %s, %s", shown(p), shownPacket(k), shown(x), shownMessages(l))
		}
	}
}

// P12.4: acknowledgements of each number of messages, and of more and less.
func TestAcceptAck(t *testing.T) {
	for _, n := range []int{0, 1, 2, 16, 20, maxQueue} {
		for _, first := range []int{0, 100, mostNext - n} {
			p := with(plainPeer(), func(p *api.Peer) { p.First, p.Queue = first, messages(n) })
			for _, ack := range []int{0, 1, first - 1, first, first + 1, first + 2, first + n/2, first + n - 1, first + n, first + n + 1, first + n + 2, mostNext} {
				if outside(ack, 0, mostNext) {
					continue
				}
				want := deepPeer(p)
				if ack > first && ack <= first+n {
					want.Queue, want.First, want.SentAt = p.Queue[ack-first:], ack, -1
				}
				checkAccepted(t, p, api.Packet{Epoch: 5, To: 3, Seq: -1, Ack: ack}, want, nil, false)
			}
		}
	}
}

// P12.4: messages of each number.
func TestAcceptSeq(t *testing.T) {
	for _, next := range []int{0, 1, 200, mostNext - 65, mostNext - 64, mostNext - 63, mostNext - 2, mostNext - 1, mostNext} {
		p := with(plainPeer(), func(p *api.Peer) { p.Next, p.Early = next, nil })
		for _, seq := range slices.Concat([]int{-1, 0, 1}, upTo(next-2, next+3), upTo(next+60, next+66), []int{next + 1000, mostNext - 1}) {
			if outside(seq, -1, mostNext-1) {
				continue
			}
			k := api.Packet{Epoch: 5, To: 3, Seq: seq, Data: []byte("message")}
			want, l := deepPeer(p), [][]byte{}
			switch {
			case seq == next:
				want.Next, l = next+1, [][]byte{k.Data}
			case seq > next && seq < next+64:
				want.Early = []api.Packet{{Seq: seq, Data: k.Data}}
			}
			checkAccepted(t, p, k, want, l, false)
		}
	}
}

// P12.4: what comes early is kept in order, once, with the bytes that came first.
func TestAcceptEarly(t *testing.T) {
	p := plainPeer()
	for seq := 199; seq <= 265; seq++ {
		k := api.Packet{Epoch: 5, To: 3, Seq: seq, Ack: 77, Data: []byte("other bytes")}
		want, l := deepPeer(p), [][]byte{}
		switch {
		case seq == 200:
			want.Next, want.Early, l = 203, p.Early[2:], [][]byte{k.Data, p.Early[0].Data, p.Early[1].Data}
		case seq > 202 && seq < 264 && seq != 205 && seq != 263:
			want.Early = append(want.Early, api.Packet{Seq: seq, Data: k.Data})
			slices.SortFunc(want.Early, func(a, b api.Packet) int { return a.Seq - b.Seq })
		}
		checkAccepted(t, p, k, want, l, false)
	}
}

// P12.4: a message delivers those that have waited for it: none of them, some, or all.
func TestAcceptDelivers(t *testing.T) {
	for _, next := range []int{0, 200, mostNext - 64} {
		for _, run := range []int{0, 1, 2, 5, 62, 63} {
			for _, rest := range [][]int{nil, {run + 2}, {run + 2, run + 3}, {run + 5, 63}, {63}} {
				numbers := upTo(next+1, next+run)
				for _, n := range rest {
					if n > run+1 && n <= 63 {
						numbers = append(numbers, next+n)
					}
				}
				p := with(plainPeer(), func(p *api.Peer) { p.Next, p.Early = next, early(numbers...) })
				want := with(p, func(p *api.Peer) { p.Next, p.Early = next+run+1, p.Early[run:] })
				l := [][]byte{[]byte("first")}
				for _, k := range p.Early[:run] {
					l = append(l, k.Data)
				}
				checkAccepted(t, p, api.Packet{Epoch: 5, To: 3, Seq: next, Data: []byte("first")}, want, l, false)
			}
		}
	}
}

// P12.4: an acknowledgement and a message in one packet, and messages of 0 and 8000 bytes.
func TestAcceptBoth(t *testing.T) {
	for _, n := range []int{0, 1, mostBytes} {
		for _, seq := range []int{-1, 200, 204} {
			for _, ack := range []int{100, 101, 120, 121} {
				x, l, _ := accept(t, plainPeer(), api.Packet{Epoch: 5, To: 3, Seq: seq, Ack: ack, Data: long(n)})
				if (x.First == ack) != (ack < 121) || (len(l) == 3) != (seq == 200) || (len(x.Early) == 5) != (seq == 204) {
					t.Fatalf("%d bytes, Seq %d, Ack %d: %s, %s", n, seq, ack, shown(x), shownMessages(l))
				}
			}
		}
	}
}

// orders calls f with each order of the numbers from 0 to n - 1.
func orders(n int, f func(order []int)) {
	if n == 0 {
		f(nil)
		return
	}
	orders(n-1, func(order []int) {
		for i := range n {
			f(slices.Insert(slices.Clone(order), i, n-1))
		}
	})
}

// acceptAll lets p accept packets, and returns all that it delivers.
func acceptAll(t *testing.T, p api.Peer, packets []api.Packet) (api.Peer, [][]byte) {
	t.Helper()
	var all [][]byte
	for _, k := range packets {
		x, l, reset := accept(t, p, k)
		if reset {
			t.Fatalf("%s is reset by %s", shown(p), shownPacket(k))
		}
		p, all = x, append(all, l...)
	}
	return p, all
}

// P12.6: up to five packets in each order, each of them once and twice.
func TestAcceptOrders(t *testing.T) {
	for _, next := range []int{0, 200, mostNext - 5} {
		p := api.Peer{Epoch: 3, Other: 5, Next: next, SentAt: -1}
		for n := range 6 {
			want, sent := with(p, func(p *api.Peer) { p.Next += n }), messages(n)
			orders(n, func(order []int) {
				var once, twice []api.Packet
				for _, i := range order {
					k := api.Packet{Epoch: 5, To: 3, Seq: next + i, Data: sent[i]}
					once, twice = append(once, k), append(twice, k, k)
				}
				for _, packets := range [][]api.Packet{once, twice, slices.Concat(once, once)} {
					if x, l := acceptAll(t, p, packets); !samePeer(x, want) || !sameMessages(l, sent) {
						t.Fatalf("in the order %v: %s, %s", order, shown(x), shownMessages(l))
					}
				}
			})
		}
	}
}

// P12.6: 64 packets in any order; one more than that, ahead of all, is not kept.
func TestAcceptSixtyFour(t *testing.T) {
	r := rand.New(rand.NewSource(2))
	p := api.Peer{Epoch: 3, Other: 5, Next: 7, SentAt: -1}
	sent := messages(64)
	for range 100 {
		var packets []api.Packet
		for _, i := range r.Perm(64) {
			packets = append(packets, api.Packet{Epoch: 5, To: 3, Seq: 7 + i, Data: sent[i]})
			if r.Intn(4) == 0 {
				packets = append(packets, packets[r.Intn(len(packets))])
			}
		}
		if x, l := acceptAll(t, p, packets); !samePeer(x, api.Peer{Epoch: 3, Other: 5, Next: 71, SentAt: -1}) || !sameMessages(l, sent) {
			t.Fatalf("%s, %s", shown(x), shownMessages(l))
		}
	}
	backwards := []api.Packet{}
	for seq := 71; seq >= 7; seq-- {
		backwards = append(backwards, api.Packet{Epoch: 5, To: 3, Seq: seq})
	}
	if x, l := acceptAll(t, p, backwards); x.Next != 71 || len(l) != 64 || len(x.Early) != 0 {
		t.Fatalf("%s, %s", shown(x), shownMessages(l))
	}
}

// P12.6: accepting a packet a second time, at once, changes nothing.
func TestAcceptTwice(t *testing.T) {
	peers, packets := validPeers(), validPackets()
	r := rand.New(rand.NewSource(3))
	for range 2000 {
		p := randomPeer(r)
		peers, packets = append(peers, p), append(packets, randomPacket(r, p))
	}
	for i, p := range peers {
		for _, k := range []api.Packet{packets[min(i, len(packets)-1)], packets[len(packets)-1-i%len(packets)], randomPacket(r, p), plainPacket()} {
			x, _, _ := accept(t, p, k)
			checkAccepted(t, x, k, x, nil, false)
		}
	}
}

// P12.4: random sides and packets; what a side becomes is valid.
func TestAcceptRandom(t *testing.T) {
	r := rand.New(rand.NewSource(4))
	for range 20000 {
		p := randomPeer(r)
		x, l, _ := accept(t, p, randomPacket(r, p))
		if faults := faultsOf(x); len(faults) > 0 || len(l) > 64 {
			t.Fatalf("%s becomes %s, with %s: %v", shown(p), shown(x), shownMessages(l), faults)
		}
	}
}

// P12.4: the data of a packet without a message are ignored.
func TestAcceptIgnoredData(t *testing.T) {
	for _, p := range validPeers() {
		for _, data := range [][]byte{nil, []byte("a"), long(mostBytes)} {
			k := api.Packet{Epoch: 5, To: p.Epoch, Seq: -1, Ack: p.First + 1, Data: data}
			if faulty(k) {
				continue
			}
			if x, l, _ := accept(t, p, k); len(l) > 0 || slices.ContainsFunc(x.Early, func(e api.Packet) bool { return bytes.Equal(e.Data, k.Data) && len(k.Data) == 1 }) {
				t.Fatalf("%s becomes %s, with %s", shown(p), shown(x), shownMessages(l))
			}
		}
	}
	p, e := window.New(7)
	if e != api.OK {
		t.Fatal(e)
	}
	checkAccepted(t, p, api.Packet{Epoch: 9, To: 7, Seq: -1, Data: []byte("a")}, api.Peer{Epoch: 7, Other: 9, SentAt: -1}, nil, true)
}
