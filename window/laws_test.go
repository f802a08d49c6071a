package window_test

import (
	"fmt"
	"math/rand"
	"slices"
	"testing"

	"wagonpool/api"
	"wagonpool/window"
)

// end is a side with what it was offered and has delivered since it was last reset or restarted.
type end struct {
	api.Peer
	offered, delivered [][]byte
}

// history is two sides, and the packets that are on their way to each of them.
type history struct {
	t     *testing.T
	r     *rand.Rand
	ends  [2]end
	wires [2][]api.Packet // to the end with this index
	now   int

	offers, deliveries int // of messages, all together
}

func newHistory(t *testing.T, seed int64) *history {
	h := history{t: t, r: rand.New(rand.NewSource(seed))}
	for i := range h.ends {
		h.begin(i, h.r.Intn(3))
	}
	return &h
}

// begin starts a side anew.
func (h *history) begin(i, epoch int) {
	p, e := window.New(epoch)
	if e != api.OK {
		h.t.Fatalf("New(%d): %v", epoch, e)
	}
	h.ends[i] = end{Peer: p}
}

func (h *history) offer(i int) {
	h.offers++
	message := fmt.Appendf(nil, "message %d", h.offers)
	if x, e := offer(h.t, h.ends[i].Peer, message); e == api.OK {
		h.ends[i].Peer = x
		h.ends[i].offered = append(h.ends[i].offered, message)
	} else if len(h.ends[i].Queue) < maxQueue {
		h.t.Fatalf("offer to %s: %v", shown(h.ends[i].Peer), e)
	}
}

// emit puts packets on the wire, each of them through its encoding.
func (h *history) emit(i int) {
	x, l := emit(h.t, h.ends[i].Peer, h.now)
	h.ends[i].Peer = x
	for _, k := range l {
		b, e := window.Encode(k)
		if e != api.OK {
			h.t.Fatalf("Encode of %s: %v", shownPacket(k), e)
		}
		arrived, e := window.Decode(b)
		if e != api.OK || !samePacket(arrived, k) {
			h.t.Fatalf("%s arrives as %s, %v", shownPacket(k), shownPacket(arrived), e)
		}
		h.wires[1-i] = append(h.wires[1-i], arrived)
	}
}

// arrive lets a packet arrive, and checks that a second time would change nothing.
func (h *history) arrive(i int, k api.Packet) {
	x, l, reset := accept(h.t, h.ends[i].Peer, k)
	checkAccepted(h.t, x, k, x, nil, false)
	h.ends[i].Peer = x
	if reset {
		h.ends[i].offered, h.ends[i].delivered = nil, nil
	}
	h.ends[i].delivered = append(h.ends[i].delivered, l...)
	h.deliveries += len(l)
}

// step does something, and reports whether a side was restarted.
func (h *history) step() bool {
	i := h.r.Intn(2)
	n := len(h.wires[i])
	switch c := h.r.Intn(100); {
	case c < 20:
		h.offer(i)
	case c < 40:
		h.emit(i)
	case c < 45:
		h.now += h.r.Intn(15)
	case c < 47:
		h.now = max(0, h.now-h.r.Intn(20)) // the clock is set back
	case c < 48:
		h.begin(i, h.ends[i].Epoch+1+h.r.Intn(2))
		return true
	case n == 0:
	case c < 52: // lost
		h.wires[i] = slices.Delete(h.wires[i], h.r.Intn(n), n)
	case c < 57: // duplicated, and delayed for an unknown time
		h.arrive(i, h.wires[i][h.r.Intn(n)])
	default:
		k := h.r.Intn(n)
		if c < 80 {
			k = 0
		}
		packet := h.wires[i][k]
		h.wires[i] = slices.Delete(h.wires[i], k, k+1)
		h.arrive(i, packet)
	}
	return false
}

// acquainted reports whether each side knows the epoch of the other one.
func (h *history) acquainted() bool {
	return h.ends[0].Other == h.ends[1].Epoch && h.ends[1].Other == h.ends[0].Epoch
}

// checkOrder checks that what a side has delivered is the beginning of what the other one was offered.
func (h *history) checkOrder() {
	h.t.Helper()
	for i := range h.ends {
		from, to := h.ends[1-i], h.ends[i]
		n := len(to.delivered)
		if n > len(from.offered) || !sameMessages(to.delivered, from.offered[:n]) {
			h.t.Fatalf("%s was offered %s; %s has delivered %s", shown(from.Peer), shownMessages(from.offered), shown(to.Peer), shownMessages(to.delivered))
		}
		if n != to.Next || len(from.offered) != from.First+len(from.Queue) || n < from.First || n > from.First+len(from.Queue) {
			h.t.Fatalf("%s has delivered %d messages of %s, which was offered %d", shown(to.Peer), n, shown(from.Peer), len(from.offered))
		}
	}
}

// exchange lets both sides emit, and all of their packets arrive in some order.
func (h *history) exchange() {
	h.now += 10 + h.r.Intn(3)
	h.emit(0)
	h.emit(1)
	for i := range h.wires {
		l := h.wires[i]
		h.wires[i] = nil
		h.r.Shuffle(len(l), func(a, b int) { l[a], l[b] = l[b], l[a] })
		for _, k := range l {
			h.arrive(i, k)
		}
	}
}

// P12.6: messages are delivered in order, each of them once, whatever happens to packets and sides, whenever both sides know each other.
func TestHistories(t *testing.T) {
	acquainted, delivered, restarts := 0, 0, 0
	for seed := range int64(150) {
		h := newHistory(t, 100+seed)
		for range 400 {
			if h.step() {
				restarts++
			}
			if h.acquainted() {
				acquainted++
				h.checkOrder()
			}
		}
		delivered += h.deliveries
	}
	if acquainted < 20000 || delivered < 2000 || restarts < 400 {
		t.Fatalf("too little has happened: %d, %d, %d", acquainted, delivered, restarts)
	}
}

// P12.6: from some time on all packets arrive: then what is offered after two exchanges is delivered.
func TestHistoriesEnd(t *testing.T) {
	for seed := range int64(100) {
		h := newHistory(t, 500+seed)
		for range h.r.Intn(300) {
			h.step()
		}
		h.exchange()
		h.exchange()
		if !h.acquainted() {
			t.Fatalf("%s and %s", shown(h.ends[0].Peer), shown(h.ends[1].Peer))
		}
		n := h.r.Intn(100)
		for range n {
			h.offer(h.r.Intn(2))
		}
		for range 2 * (maxQueue/16 + 1) {
			h.exchange()
			h.checkOrder()
		}
		for i, side := range h.ends {
			if len(side.Queue) > 0 || !sameMessages(side.offered, h.ends[1-i].delivered) {
				t.Fatalf("%s was offered %s; %s has delivered %s", shown(side.Peer), shownMessages(side.offered), shown(h.ends[1-i].Peer), shownMessages(h.ends[1-i].delivered))
			}
		}
	}
}

// P12.6: full queues in both directions, without restarts and losses, through one exchange after the other.
func TestHistoriesFull(t *testing.T) {
	h := newHistory(t, 7)
	h.exchange()
	h.exchange()
	for i := range h.ends {
		for range maxQueue {
			h.offer(i)
		}
	}
	for range 2 * maxQueue / 16 {
		h.exchange()
		h.checkOrder()
	}
	for i := range h.ends {
		if h.ends[i].Next != maxQueue || len(h.ends[i].delivered) != maxQueue {
			t.Fatalf("%s has delivered %s", shown(h.ends[i].Peer), shownMessages(h.ends[i].delivered))
		}
	}
}

// P12.6: packets that were on their way when a side was restarted mean nothing to it, nor to the other one after it knows of that.
func TestOldPackets(t *testing.T) {
	h := newHistory(t, 8)
	h.exchange()
	h.exchange()
	for i := range h.ends {
		h.offer(i)
		h.emit(i)
	}
	old := h.wires
	h.wires = [2][]api.Packet{}
	h.begin(0, h.ends[0].Epoch+1)
	h.exchange()
	h.exchange()
	before := h.ends
	for i := range old {
		for _, k := range old[i] {
			h.arrive(i, k)
			if !samePeer(h.ends[i].Peer, before[i].Peer) {
				t.Fatalf("%s becomes %s by %s", shown(before[i].Peer), shown(h.ends[i].Peer), shownPacket(k))
			}
		}
	}
	h.checkOrder()
}
