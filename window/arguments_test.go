package window_test

import (
	"bytes"
	"math/rand"
	"reflect"
	"slices"
	"testing"

	"wagonpool/api"
	"wagonpool/window"
)

// behind returns bytes equal to b with other ones behind them.
func behind(b []byte) []byte {
	return slices.Concat(b, []byte("behind"))[:len(b)]
}

// behindPeer returns a side equal to p with something behind each of its slices.
func behindPeer(p api.Peer) api.Peer {
	x := p
	x.Queue, x.Early = make([][]byte, 0, len(p.Queue)+3), make([]api.Packet, 0, len(p.Early)+3)
	for _, m := range p.Queue {
		x.Queue = append(x.Queue, behind(m))
	}
	for _, k := range p.Early {
		k.Data = behind(k.Data)
		x.Early = append(x.Early, k)
	}
	for i := range 3 {
		x.Queue[:cap(x.Queue)][len(x.Queue)+i] = []byte("behind")
		x.Early[:cap(x.Early)][len(x.Early)+i] = api.Packet{Epoch: 1, To: 2, Seq: 3, Ack: 4, Data: []byte("behind")}
	}
	return x
}

// whole returns a copy of a side with what is behind its slices.
func whole(p api.Peer) api.Peer {
	x := p
	x.Queue, x.Early = nil, nil
	for _, m := range p.Queue[:cap(p.Queue)] {
		x.Queue = append(x.Queue, bytes.Clone(m[:cap(m)]))
	}
	for _, k := range p.Early[:cap(p.Early)] {
		k.Data = bytes.Clone(k.Data[:cap(k.Data)])
		x.Early = append(x.Early, k)
	}
	return x
}

// spoil overwrites bytes and the room behind them.
func spoil(b []byte) {
	b = b[:cap(b)]
	for i := range b {
		b[i] = 0xa5
	}
}

func spoilMessages(l [][]byte) {
	for _, m := range l[:cap(l)] {
		spoil(m)
	}
	for i := range l[:cap(l)] {
		l[:cap(l)][i] = []byte("spoilt")
	}
}

func spoilPackets(l []api.Packet) {
	for i, k := range l[:cap(l)] {
		spoil(k.Data)
		l[:cap(l)][i] = api.Packet{Epoch: 91, To: 92, Seq: 93, Ack: 94, Data: []byte("spoilt")}
	}
}

func spoilPeer(p api.Peer) {
	spoilMessages(p.Queue)
	spoilPackets(p.Early)
}

// peers returns sides of all sorts, also such as are not valid.
func peers() []api.Peer {
	r := rand.New(rand.NewSource(6))
	l := slices.Concat(validPeers(), faultyPeers())
	for range 100 {
		l = append(l, randomPeer(r))
	}
	return l
}

// packetsFor returns packets for a side: acknowledgements and messages in turn and early, a new epoch, and one that is not valid.
func packetsFor(p api.Peer) (l []api.Packet) {
	for _, k := range []api.Packet{{Seq: -1}, {Seq: p.Next}, {Seq: p.Next + 3, Ack: p.First + 1}, {Seq: -1, Ack: p.First + len(p.Queue)}, {Seq: -2}} {
		k.Epoch, k.To, k.Data = max(0, p.Other), p.Epoch, []byte("data")
		l = append(l, k)
	}
	return append(l, api.Packet{Epoch: p.Other + 1, To: p.Epoch, Data: []byte("data")})
}

// R2: no function writes to its arguments or behind them, not even through its results.
func TestArgumentsUnchanged(t *testing.T) {
	for _, p := range peers() {
		argument, data := behindPeer(p), behind([]byte("message"))
		want := whole(argument)
		check := func(what string) {
			t.Helper()
			if got := whole(argument); !samePeer(got, want) || string(data[:cap(data)][:13]) != "messagebehind" {
				t.Fatalf("%s of %s: its memory is now %s, that of the message %q", what, shown(p), shown(got), data[:cap(data)])
			}
		}
		x, _ := window.Offer(argument, data)
		spoilPeer(x)
		check("Offer")
		for _, now := range []int{-1, 500, 1005} {
			x, l := window.Emit(argument, now)
			spoilPeer(x)
			spoilPackets(l)
			check("Emit")
		}
		for _, k := range packetsFor(p) {
			k.Data = data
			x, l, _ := window.Accept(argument, k)
			spoilPeer(x)
			spoilMessages(l)
			check("Accept")
			b, _ := window.Encode(k)
			spoil(b)
			check("Encode")
			b, _ = window.Encode(api.Packet{Data: []byte("data")})
			b = behind(b)
			before := bytes.Clone(b[:cap(b)])
			decoded, _ := window.Decode(b)
			spoil(decoded.Data)
			if !bytes.Equal(b[:cap(b)], before) {
				t.Fatalf("Decode: its argument is now %q", b)
			}
		}
	}
}

// R2: results stay as they are when the arguments or the results of other calls change.
func TestResultsUnchanged(t *testing.T) {
	for _, p := range peers() {
		argument, data := behindPeer(p), []byte("message")
		other, _ := window.Offer(argument, data)
		x, _ := window.Offer(argument, data)
		spoilPeer(argument)
		spoilPeer(other)
		spoil(data)
		if want, _ := offerOf(p, []byte("message")); !samePeer(x, want) {
			t.Fatalf("Offer to %s: it is now %s", shown(p), shown(x))
		}
		for _, now := range []int{-1, 500, 1005} {
			argument := behindPeer(p)
			other, others := window.Emit(argument, now)
			x, l := window.Emit(argument, now)
			spoilPeer(argument)
			spoilPeer(other)
			spoilPackets(others)
			if want, wantL := emitOf(p, now); !samePeer(x, want) || !samePackets(l, wantL) {
				t.Fatalf("Emit of %s: it is now %s, with %s", shown(p), shown(x), shownPackets(l))
			}
		}
		for _, k := range packetsFor(p) {
			argument, packet := behindPeer(p), deepPacket(k)
			other, others, _ := window.Accept(argument, packet)
			x, l, reset := window.Accept(argument, packet)
			spoilPeer(argument)
			spoil(packet.Data)
			spoilPeer(other)
			spoilMessages(others)
			if want, wantL, wantReset := acceptOf(p, k); !samePeer(x, want) || !sameMessages(l, wantL) || reset != wantReset {
				t.Fatalf("%s accepts %s: it is now %s, with %s", shown(p), shownPacket(k), shown(x), shownMessages(l))
			}
		}
	}
}

// R2: encodings and decoded packets stay as they are, too.
func TestTransportUnchanged(t *testing.T) {
	for _, k := range validPackets() {
		argument := deepPacket(k)
		b, _ := window.Encode(argument)
		other, _ := window.Encode(argument)
		want := bytes.Clone(b)
		spoil(argument.Data)
		spoil(other)
		if !bytes.Equal(b, want) {
			t.Fatalf("Encode of %s: it is now %s", shownPacket(k), brief(b))
		}
		x, _ := window.Decode(b)
		y, _ := window.Decode(b)
		spoil(y.Data)
		spoil(b)
		if !samePacket(x, k) {
			t.Fatalf("Decode of %s: it is now %s", shownPacket(k), shownPacket(x))
		}
	}
}

// LANGUAGE.md 7: no two parts of one result share memory, not even what is behind them.
func TestPartsApart(t *testing.T) {
	for _, p := range peers() {
		parts := func(x api.Peer, l []api.Packet, messages [][]byte) (all [][]byte) {
			for _, k := range slices.Concat(x.Early, l) {
				all = append(all, k.Data)
			}
			return slices.Concat(all, x.Queue, messages)
		}
		check := func(what string, all [][]byte) {
			t.Helper()
			for i := range all {
				for j := range all[i][:cap(all[i])] {
					all[i][:cap(all[i])][j] = byte(i)
				}
			}
			for i := range all {
				for _, c := range all[i] {
					if c != byte(i) {
						t.Fatalf("%s of %s: part %d of the result shares memory", what, shown(p), i)
					}
				}
			}
		}
		x, _ := window.Offer(p, []byte("message"))
		check("Offer", parts(x, nil, nil))
		x, l := window.Emit(p, 500)
		check("Emit", parts(x, l, nil))
		for _, k := range packetsFor(p) {
			x, l, _ := window.Accept(p, k)
			check("Accept", parts(x, nil, l))
		}
	}
}

// R2: a side may be used several times, with another continuation each time.
func TestPeerUsedTwice(t *testing.T) {
	for _, p := range validPeers() {
		want := deepPeer(p)
		x, e := offer(t, p, []byte("first"))
		if e != api.OK {
			continue
		}
		wantX := deepPeer(x)
		y, _ := offer(t, p, []byte("second"))
		accept(t, p, api.Packet{Epoch: max(0, p.Other), To: p.Epoch, Seq: -1, Ack: p.First + 1})
		offer(t, x, []byte("third"))
		if !samePeer(p, want) || !samePeer(x, wantX) || string(y.Queue[len(y.Queue)-1]) != "second" {
			t.Fatalf("%s, %s, %s", shown(p), shown(x), shown(y))
		}
	}
}

// R3: nil and no elements are the same.
func TestNil(t *testing.T) {
	for _, p := range []api.Peer{{Epoch: 3, Other: 5, SentAt: -1}, {Epoch: 3, Other: 5, Queue: [][]byte{nil}, Early: []api.Packet{{Seq: 1}}}} {
		for _, none := range [][]byte{nil, {}, make([]byte, 0, 5)} {
			x := deepPeer(p)
			for i := range x.Queue {
				x.Queue[i], x.Early[i].Data = none, none
			}
			if len(x.Queue) == 0 && none != nil {
				x.Queue, x.Early = make([][]byte, 0, cap(none)), make([]api.Packet, 0, cap(none))
			}
			offer(t, x, none)
			emit(t, x, 5)
			emit(t, x, 500)
			for _, seq := range []int{-1, 0, 1, 2} {
				accept(t, x, api.Packet{Epoch: 5, To: 3, Seq: seq, Data: none})
			}
			checkTransport(t, api.Packet{Data: none})
		}
	}
}

// results are what all functions return for a side.
type results struct {
	peers     []api.Peer
	packets   [][]api.Packet
	delivered [][][]byte
	resets    []bool
	encoded   [][]byte
	errors    []api.Errno
}

func call(p api.Peer) (r results) {
	x, e := window.Offer(p, []byte("message"))
	r.peers, r.errors = append(r.peers, x), append(r.errors, e)
	for _, now := range []int{-1, 500, 1005} {
		x, l := window.Emit(p, now)
		r.peers, r.packets = append(r.peers, x), append(r.packets, l)
	}
	for _, k := range packetsFor(p) {
		x, l, reset := window.Accept(p, k)
		r.peers, r.delivered, r.resets = append(r.peers, x), append(r.delivered, l), append(r.resets, reset)
		b, e := window.Encode(k)
		r.encoded, r.errors = append(r.encoded, b), append(r.errors, e)
		k, e = window.Decode(b)
		r.packets, r.errors = append(r.packets, []api.Packet{k}), append(r.errors, e)
	}
	x, e = window.New(p.Epoch)
	r.peers, r.errors = append(r.peers, x), append(r.errors, e)
	return r
}

// R6: equal calls return equal results, whatever was called in between.
func TestEqualCalls(t *testing.T) {
	l := peers()
	for i, p := range l {
		first := call(p)
		call(l[(i+1)%len(l)])
		for range 2 {
			if again := call(behindPeer(p)); !reflect.DeepEqual(again, first) {
				t.Fatalf("%s: %v, and before %v", shown(p), again, first)
			}
		}
	}
}

// R1: together with an error, every other result is its zero value.
func TestZeroWithErrors(t *testing.T) {
	for _, p := range slices.Concat(faultyPeers(), []api.Peer{with(plainPeer(), func(p *api.Peer) { p.Queue = messages(maxQueue) })}) {
		for _, data := range [][]byte{nil, []byte("a"), long(mostBytes + 1)} {
			if x, e := window.Offer(p, data); e == api.OK || !reflect.DeepEqual(x, api.Peer{}) {
				t.Fatalf("Offer to %s: %s, %v", shown(p), shown(x), e)
			}
		}
	}
	if x, e := window.Offer(plainPeer(), long(mostBytes+1)); e == api.OK || !reflect.DeepEqual(x, api.Peer{}) {
		t.Fatalf("Offer of a long message: %s, %v", shown(x), e)
	}
	if b, e := window.Encode(api.Packet{Epoch: 1, Data: long(api.MaxValue)}); e == api.OK || len(b) > 0 {
		t.Fatalf("Encode of a long packet: %d bytes, %v", len(b), e)
	}
	if x, e := window.New(-1); e == api.OK || !reflect.DeepEqual(x, api.Peer{}) {
		t.Fatalf("New(-1): %s, %v", shown(x), e)
	}
	// What is wrong comes after fields that could be read.
	for _, s := range []string{"\x40\x21\x03\x21\x05\x21\x07\x21\x09\x20\x00", "\x40\x21\x03\x21\x05\x21\x07\x30a\x00\x00\x30a\x00\x00\x00", "\x40\x21\x03\x21\x05\x21\x07\x21\x09\x30a\x00\x00\x20\x00", "\x40\x21\x03\x21\x05\x21\x07\x21\x09\x30a\x00\x00"} {
		if k, e := window.Decode([]byte(s)); e == api.OK || !reflect.DeepEqual(k, api.Packet{}) {
			t.Fatalf("Decode of %q: %s, %v", s, shownPacket(k), e)
		}
	}
}
