package window_test

import (
	"testing"

	"wagonpool/api"
	"wagonpool/window"
)

// The table of the chapter, in its order.
func TestExamples(t *testing.T) {
	a, e := window.New(3)
	if want := (api.Peer{Epoch: 3, Other: -1, SentAt: -1}); !samePeer(a, want) || e != api.OK {
		t.Fatalf("New(3): %s, %v", shown(a), e)
	}
	b, e := window.New(5)
	if want := (api.Peer{Epoch: 5, Other: -1, SentAt: -1}); !samePeer(b, want) || e != api.OK {
		t.Fatalf("New(5): %s, %v", shown(b), e)
	}

	hello := api.Packet{Epoch: 3, To: -1, Seq: -1, Ack: 0}
	a, _ = checkEmitted(t, a, 0, a, []api.Packet{hello})
	b, _, _ = checkAccepted(t, b, hello, api.Peer{Epoch: 5, Other: 3, SentAt: -1}, nil, true)
	answer := api.Packet{Epoch: 5, To: 3, Seq: -1, Ack: 0}
	b, _ = checkEmitted(t, b, 0, b, []api.Packet{answer})
	a, _, _ = checkAccepted(t, a, answer, api.Peer{Epoch: 3, Other: 5, SentAt: -1}, nil, true)

	x := []byte("x")
	a = checkOffered(t, a, x, api.Peer{Epoch: 3, Other: 5, Queue: [][]byte{x}, SentAt: -1}, api.OK)
	sent := api.Peer{Epoch: 3, Other: 5, Queue: [][]byte{x}, SentAt: 7}
	message := api.Packet{Epoch: 3, To: 5, Seq: 0, Ack: 0, Data: x}
	a, _ = checkEmitted(t, a, 7, sent, []api.Packet{message})
	a, _ = checkEmitted(t, a, 8, sent, []api.Packet{{Epoch: 3, To: 5, Seq: -1, Ack: 0}})
	sent.SentAt = 17
	checkEmitted(t, a, 17, sent, []api.Packet{message})

	delivered := api.Peer{Epoch: 5, Other: 3, Next: 1, SentAt: -1}
	b, _, _ = checkAccepted(t, b, message, delivered, [][]byte{x}, false)
	checkAccepted(t, b, message, delivered, nil, false)

	checkNew(t, -1, api.Peer{}, api.ErrArg)
	checkNew(t, mostEpoch+1, api.Peer{}, api.ErrArg)
}

// P12.1: the epochs at the ends of their range, beyond them, and between them.
func TestNew(t *testing.T) {
	for _, n := range []int{0, 1, 3, 1000, mostEpoch - 1, mostEpoch} {
		checkNew(t, n, api.Peer{Epoch: n, Other: -1, SentAt: -1}, api.OK)
	}
	for _, n := range []int{-1, -2, mostEpoch + 1, mostEpoch + 2, mostNext, least, greatest} {
		checkNew(t, n, api.Peer{}, api.ErrArg)
	}
}

// P12.2: messages of all lengths, to queues of all lengths.
func TestOfferLengths(t *testing.T) {
	for _, bytes := range []int{0, 1, 2, 256, mostBytes - 1, mostBytes, mostBytes + 1, mostBytes + 2, 65536} {
		for _, n := range []int{0, 1, 16, maxQueue - 2, maxQueue - 1, maxQueue} {
			want := api.OK
			if bytes > mostBytes {
				want = api.ErrLimit
			} else if n == maxQueue {
				want = api.ErrFull
			}
			p := with(plainPeer(), func(p *api.Peer) { p.Queue = messages(n) })
			x, e := offer(t, p, long(bytes))
			if e != want || e == api.OK && len(x.Queue) != n+1 {
				t.Fatalf("%d bytes to %d messages: %v, then %d messages", bytes, n, e, len(x.Queue))
			}
		}
	}
}

// P12.2: the numbers of messages end before 2^40.
func TestOfferNumbers(t *testing.T) {
	for _, n := range []int{0, 1, 2, 17, maxQueue - 1, maxQueue} {
		for back := range 4 {
			p := with(plainPeer(), func(p *api.Peer) { p.First, p.Queue = mostNext-n-back, messages(n) })
			want := api.OK
			if back == 0 || n == maxQueue {
				want = api.ErrFull
			}
			if x, e := offer(t, p, []byte("a")); e != want {
				t.Fatalf("%s: %v", shown(x), e)
			}
			if _, e := offer(t, p, long(mostBytes+1)); e != api.ErrLimit {
				t.Fatalf("a long message to %s: %v", shown(p), e)
			}
		}
	}
}

// P12.2: nothing is offered to a side that is not valid, and the first error is reported.
func TestOfferValidity(t *testing.T) {
	for _, data := range [][]byte{nil, []byte("a"), long(mostBytes), long(mostBytes + 1)} {
		for _, p := range faultyPeers() {
			checkOffered(t, p, data, api.Peer{}, api.ErrArg)
		}
		for _, p := range validPeers() {
			offer(t, p, data)
		}
	}
}

// P12.2: messages are appended one by one, in order, whatever the side has otherwise.
func TestOfferMany(t *testing.T) {
	for _, first := range []int{0, 100, mostNext - maxQueue, mostNext - 5} {
		p := with(plainPeer(), func(p *api.Peer) { p.First, p.Queue = first, nil })
		l := messages(maxQueue + 1)
		for i := range min(maxQueue, mostNext-first) {
			want := with(p, func(p *api.Peer) { p.Queue = l[:i+1] })
			p = checkOffered(t, p, l[i], want, api.OK)
		}
		checkOffered(t, p, l[maxQueue], api.Peer{}, api.ErrFull)
	}
}

// P12.3: how many messages are sent, and what the packets of them are.
func TestEmitMessages(t *testing.T) {
	for _, n := range []int{0, 1, 2, 15, 16, 17, 18, 32, maxQueue} {
		for _, first := range []int{0, 100, mostNext - n} {
			p := with(plainPeer(), func(p *api.Peer) { p.First, p.Queue, p.SentAt = first, messages(n), -1 })
			x, l := emit(t, p, 2000)
			if want := max(1, min(n, 16)); len(l) != want || n > 0 && x.SentAt != 2000 || n == 0 && x.SentAt != -1 {
				t.Fatalf("%d messages: %s, then %s", n, shownPackets(l), shown(x))
			}
			for i, k := range l {
				want := api.Packet{Epoch: 3, To: 5, Seq: first + i, Ack: 200}
				if n == 0 {
					want.Seq = -1
				} else {
					want.Data = p.Queue[i]
				}
				if !samePacket(k, want) {
					t.Fatalf("packet %d of %s: %s", i, shown(p), shownPacket(k))
				}
			}
		}
	}
}

// P12.3: when the queue is sent, and when an acknowledgement.
func TestEmitTimes(t *testing.T) {
	for _, at := range []int{0, 1, 5, 9, 10, 1000, maxTime - 10, maxTime - 9, maxTime - 1, maxTime} {
		p := with(plainPeer(), func(p *api.Peer) { p.SentAt = at })
		for _, now := range []int{at - 1000, at - 11, at - 10, at - 9, at - 1, at, at + 1, at + 8, at + 9, at + 10, at + 11, at + 1000, 0, maxTime} {
			want := 16
			switch {
			case now < 0 || now > maxTime:
				want = 0
			case now >= at && now < at+10:
				want = 1
			}
			if x, l := emit(t, p, now); len(l) != want {
				t.Fatalf("sent at %d, now %d: %s, then %s", at, now, shownPackets(l), shown(x))
			}
		}
	}
	for _, at := range []int{-1, 0, 100, maxTime} {
		for _, n := range []int{0, 1} {
			p := with(plainPeer(), func(p *api.Peer) { p.Queue, p.SentAt = messages(n), at })
			for _, now := range []int{least, -2, -1, 0, 1, 8, 9, 10, 50, maxTime - 1, maxTime, maxTime + 1, maxTime + 2, greatest} {
				x, l := emit(t, p, now)
				if outside(now, 0, maxTime) != (len(l) == 0) || len(l) == 0 && x.SentAt != at {
					t.Fatalf("sent at %d, now %d: %s, then %s", at, now, shownPackets(l), shown(x))
				}
			}
		}
	}
}

// P12.3: every valid side emits packets, and no other one does.
func TestEmitValidity(t *testing.T) {
	for _, p := range validPeers() {
		for _, now := range []int{0, 999, 1000, 1009, 1010, maxTime} {
			if _, l := emit(t, p, now); len(l) == 0 {
				t.Fatalf("%s emits nothing", shown(p))
			}
		}
	}
	for _, p := range faultyPeers() {
		for _, now := range []int{-1, 0, 1005, 1010, maxTime, maxTime + 1} {
			checkEmitted(t, p, now, p, nil)
		}
	}
}

// P12.3: with an empty queue, or soon after it was sent, nothing of the side changes.
func TestEmitAcknowledgement(t *testing.T) {
	for _, p := range []api.Peer{{}, {SentAt: -1}, {Other: -1}, {Epoch: mostEpoch, Other: mostEpoch, First: mostNext, Next: mostNext, SentAt: maxTime}, {Epoch: 1, Other: 2, First: 3, Next: 4, SentAt: 5}} {
		for _, now := range []int{0, 4, 5, 6, 14, 15, maxTime} {
			checkEmitted(t, p, now, p, []api.Packet{{Epoch: p.Epoch, To: p.Other, Seq: -1, Ack: p.Next}})
		}
	}
	p := plainPeer()
	for now := 1000; now < 1010; now++ {
		checkEmitted(t, p, now, p, []api.Packet{{Epoch: 3, To: 5, Seq: -1, Ack: 200}})
	}
}
