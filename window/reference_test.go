package window_test

import (
	"bytes"
	"fmt"
	"maps"
	"math"
	"slices"
	"testing"

	"wagonpool/api"
	"wagonpool/codec"
	"wagonpool/window"
)

// This file spells the chapter out a second time: validity as a list of faults, the queue and the early messages as maps from their numbers.

const (
	maxTime   = 1 << 30
	maxQueue  = 256
	mostEpoch = 1 << 30
	mostNext  = 1 << 40
	mostBytes = 8000
	least     = math.MinInt
	greatest  = math.MaxInt
)

// outside reports whether n is less than from or greater than to.
func outside(n, from, to int) bool { return n < from || n > to }

// faultsOf returns what is wrong with a side.
func faultsOf(p api.Peer) (l []string) {
	fault := func(wrong bool, what string) {
		if wrong {
			l = append(l, what)
		}
	}
	fault(outside(p.Epoch, 0, mostEpoch), "Epoch")
	fault(outside(p.Other, -1, mostEpoch), "Other")
	fault(outside(p.First, 0, mostNext), "First")
	fault(outside(p.Next, 0, mostNext), "Next")
	fault(outside(p.SentAt, -1, maxTime), "SentAt")
	fault(len(p.Queue) > maxQueue, "too many messages")
	fault(p.First > mostNext-len(p.Queue), "the number of the last message")
	for _, m := range p.Queue {
		fault(len(m) > mostBytes, "a long message")
	}
	for i, k := range p.Early {
		for _, before := range p.Early[:i] {
			fault(k.Seq <= before.Seq, "the order of Early")
		}
		fault(k.Seq <= p.Next, "Early is late")
		fault(k.Seq >= mostNext || k.Seq-64 >= p.Next, "Early is too early")
		fault(len(k.Data) > mostBytes, "a long early message")
		fault(k.Epoch != 0 || k.To != 0 || k.Ack != 0, "a further field of Early")
	}
	return l
}

// faulty reports whether a packet is not valid.
func faulty(k api.Packet) bool {
	return outside(k.Epoch, 0, mostEpoch) || outside(k.Seq, -1, mostNext-1) || outside(k.Ack, 0, mostNext) || len(k.Data) > mostBytes
}

// deepPeer returns a side equal to p in memory of its own.
func deepPeer(p api.Peer) api.Peer {
	x := p
	x.Queue, x.Early = nil, nil
	for _, m := range p.Queue {
		x.Queue = append(x.Queue, bytes.Clone(m))
	}
	for _, k := range p.Early {
		x.Early = append(x.Early, deepPacket(k))
	}
	return x
}

func deepPacket(k api.Packet) api.Packet {
	k.Data = bytes.Clone(k.Data)
	return k
}

// offerOf spells Offer out.
func offerOf(p api.Peer, data []byte) (api.Peer, api.Errno) {
	if len(faultsOf(p)) > 0 {
		return api.Peer{}, api.ErrArg
	}
	if len(data) > mostBytes {
		return api.Peer{}, api.ErrLimit
	}
	x := deepPeer(p)
	x.Queue = append(x.Queue, bytes.Clone(data))
	if len(faultsOf(x)) > 0 {
		return api.Peer{}, api.ErrFull
	}
	return x, api.OK
}

// emitOf spells Emit out.
func emitOf(p api.Peer, now int) (x api.Peer, l []api.Packet) {
	x = deepPeer(p)
	if len(faultsOf(p)) > 0 || outside(now, 0, maxTime) {
		return x, nil
	}
	since := now - p.SentAt
	if len(p.Queue) == 0 || p.SentAt >= 0 && since >= 0 && since < 10 {
		return x, []api.Packet{{Epoch: p.Epoch, To: p.Other, Seq: -1, Ack: p.Next}}
	}
	x.SentAt = now
	for i, m := range p.Queue {
		if i < 16 {
			l = append(l, api.Packet{Epoch: p.Epoch, To: p.Other, Seq: p.First + i, Ack: p.Next, Data: bytes.Clone(m)})
		}
	}
	return x, l
}

// acceptOf spells Accept out.
func acceptOf(p api.Peer, k api.Packet) (x api.Peer, l [][]byte, reset bool) {
	x = deepPeer(p)
	if len(faultsOf(p)) > 0 || faulty(k) || k.Epoch < p.Other {
		return x, nil, false
	}
	if k.Epoch != p.Other {
		x = api.Peer{Epoch: p.Epoch, Other: k.Epoch, SentAt: -1}
		reset = true
	}
	if k.To != p.Epoch {
		return x, nil, reset
	}
	if k.Ack-1 >= x.First && k.Ack-1 < x.First+len(x.Queue) {
		x.Queue = x.Queue[k.Ack-x.First:]
		x.First, x.SentAt = k.Ack, -1
	}
	waiting := map[int][]byte{}
	for _, early := range x.Early {
		waiting[early.Seq] = early.Data
	}
	if _, known := waiting[k.Seq]; !known && k.Seq >= x.Next && k.Seq <= x.Next+63 {
		waiting[k.Seq] = bytes.Clone(k.Data)
	}
	for m, ok := waiting[x.Next]; ok; m, ok = waiting[x.Next] {
		l = append(l, m)
		delete(waiting, x.Next)
		x.Next++
	}
	x.Early = nil
	for _, seq := range slices.Sorted(maps.Keys(waiting)) {
		x.Early = append(x.Early, api.Packet{Seq: seq, Data: waiting[seq]})
	}
	return x, l, reset
}

// valueOf is the value of a packet.
func valueOf(k api.Packet) api.Value {
	return list(integer(k.Epoch), integer(k.To), integer(k.Seq), integer(k.Ack), text(string(k.Data)))
}

func integer(n int) api.Value { return api.Value{Kind: api.IntV, N: n} }

func text(s string) api.Value { return api.Value{Kind: api.BytesV, B: []byte(s)} }

func list(l ...api.Value) api.Value { return api.Value{Kind: api.ListV, L: l} }

// decodeOf spells Decode out: the packet is the one whose value has been encoded.
func decodeOf(b []byte) (k api.Packet, e api.Errno) {
	v, e := codec.Decode(b)
	if e != api.OK {
		return k, e
	}
	if len(v.L) == 5 {
		k = api.Packet{Epoch: v.L[0].N, To: v.L[1].N, Seq: v.L[2].N, Ack: v.L[3].N, Data: v.L[4].B}
	}
	if codec.Compare(v, valueOf(k)) != 0 {
		return api.Packet{}, api.ErrShape
	}
	return k, api.OK
}

// sameMessages and the following functions compare; R3: nil and no elements are the same.
func sameMessages(a, b [][]byte) bool { return slices.EqualFunc(a, b, bytes.Equal) }

func samePacket(a, b api.Packet) bool {
	return a.Epoch == b.Epoch && a.To == b.To && a.Seq == b.Seq && a.Ack == b.Ack && bytes.Equal(a.Data, b.Data)
}

func samePackets(a, b []api.Packet) bool { return slices.EqualFunc(a, b, samePacket) }

func samePeer(a, b api.Peer) bool {
	return a.Epoch == b.Epoch && a.Other == b.Other && a.First == b.First && a.Next == b.Next && a.SentAt == b.SentAt &&
		sameMessages(a.Queue, b.Queue) && samePackets(a.Early, b.Early)
}

// brief shows bytes of any number.
func brief(b []byte) string {
	if len(b) > 12 {
		return fmt.Sprintf("%q.. (%d bytes)", b[:12], len(b))
	}
	return fmt.Sprintf("%q", b)
}

func shownMessages(l [][]byte) string {
	s := fmt.Sprintf("%d messages", len(l))
	for _, m := range l[:min(len(l), 5)] {
		s += " " + brief(m)
	}
	return s
}

func shownPacket(k api.Packet) string {
	return fmt.Sprintf("{Epoch %d To %d Seq %d Ack %d %s}", k.Epoch, k.To, k.Seq, k.Ack, brief(k.Data))
}

func shownPackets(l []api.Packet) string {
	s := fmt.Sprintf("%d packets", len(l))
	for _, k := range l[:min(len(l), 5)] {
		s += " " + shownPacket(k)
	}
	return s
}

func shown(p api.Peer) string {
	return fmt.Sprintf("[Epoch %d Other %d First %d Next %d SentAt %d; %s; early %s]", p.Epoch, p.Other, p.First, p.Next, p.SentAt, shownMessages(p.Queue), shownPackets(p.Early))
}

func checkNew(t *testing.T, epoch int, want api.Peer, wantE api.Errno) {
	t.Helper()
	if p, e := window.New(epoch); !samePeer(p, want) || e != wantE {
		t.Fatalf("New(%d): %s, %v; want %s, %v", epoch, shown(p), e, shown(want), wantE)
	}
}

func checkOffered(t *testing.T, p api.Peer, data []byte, want api.Peer, wantE api.Errno) api.Peer {
	t.Helper()
	x, e := window.Offer(p, data)
	if !samePeer(x, want) || e != wantE {
		t.Fatalf("Offer of %s to %s: %s, %v; want %s, %v", brief(data), shown(p), shown(x), e, shown(want), wantE)
	}
	return x
}

func checkEmitted(t *testing.T, p api.Peer, now int, want api.Peer, wantL []api.Packet) (api.Peer, []api.Packet) {
	t.Helper()
	x, l := window.Emit(p, now)
	if !samePeer(x, want) || !samePackets(l, wantL) {
		t.Fatalf("Emit of %s at %d: %s, %s; want %s, %s", shown(p), now, shown(x), shownPackets(l), shown(want), shownPackets(wantL))
	}
	return x, l
}

func checkAccepted(t *testing.T, p api.Peer, k api.Packet, want api.Peer, wantL [][]byte, wantReset bool) (api.Peer, [][]byte, bool) {
	t.Helper()
	x, l, reset := window.Accept(p, k)
	if !samePeer(x, want) || !sameMessages(l, wantL) || reset != wantReset {
		t.Fatalf("%s accepts %s: %s, %s, %v; want %s, %s, %v", shown(p), shownPacket(k), shown(x), shownMessages(l), reset, shown(want), shownMessages(wantL), wantReset)
	}
	return x, l, reset
}

func checkEncoded(t *testing.T, k api.Packet, want []byte, wantE api.Errno) []byte {
	t.Helper()
	b, e := window.Encode(k)
	if !bytes.Equal(b, want) || e != wantE {
		t.Fatalf("Encode of %s: %s, %v; want %s, %v", shownPacket(k), brief(b), e, brief(want), wantE)
	}
	return b
}

func checkDecoded(t *testing.T, b []byte, want api.Packet, wantE api.Errno) {
	t.Helper()
	if k, e := window.Decode(b); !samePacket(k, want) || e != wantE {
		t.Fatalf("Decode of %x (%d bytes): %s, %v; want %s, %v", b[:min(len(b), 40)], len(b), shownPacket(k), e, shownPacket(want), wantE)
	}
}

// offer, emit and accept compare a call with what the chapter says of it.
func offer(t *testing.T, p api.Peer, data []byte) (api.Peer, api.Errno) {
	t.Helper()
	want, e := offerOf(p, data)
	return checkOffered(t, p, data, want, e), e
}

func emit(t *testing.T, p api.Peer, now int) (api.Peer, []api.Packet) {
	t.Helper()
	want, l := emitOf(p, now)
	return checkEmitted(t, p, now, want, l)
}

func accept(t *testing.T, p api.Peer, k api.Packet) (api.Peer, [][]byte, bool) {
	t.Helper()
	want, l, reset := acceptOf(p, k)
	return checkAccepted(t, p, k, want, l, reset)
}
