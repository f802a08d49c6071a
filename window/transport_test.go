package window_test

import (
	"bytes"
	"math/rand"
	"slices"
	"testing"

	"wagonpool/api"
	"wagonpool/codec"
	"wagonpool/window"
)

// P12.5: encodings that are spelled out.
func TestEncodeSpelledOut(t *testing.T) {
	for _, c := range []struct {
		k api.Packet
		b string
	}{
		{api.Packet{}, "\x40\x20\x20\x20\x20\x30\x00\x00\x00"},
		{api.Packet{Epoch: 3, To: -1, Seq: -1}, "\x40\x21\x03\x1f\x1f\x20\x30\x00\x00\x00"},
		{api.Packet{Epoch: 3, To: 5, Seq: 256, Ack: 255, Data: []byte("x\x00")}, "\x40\x21\x03\x21\x05\x22\x01\x00\x21\xff\x30x\x00\xff\x00\x00\x00"},
	} {
		checkEncoded(t, c.k, []byte(c.b), api.OK)
		checkDecoded(t, []byte(c.b), c.k, api.OK)
	}
}

// checkTransport checks both directions of a packet.
func checkTransport(t *testing.T, k api.Packet) {
	t.Helper()
	want, wantE := codec.Encode(valueOf(k))
	b := checkEncoded(t, k, want, wantE)
	if wantE == api.OK {
		checkDecoded(t, b, k, api.OK)
	}
}

// P12.5: each field of a packet may have any value, also one that is not valid.
func TestEncodeFields(t *testing.T) {
	for _, n := range []int{least, least + 1, -257, -256, -2, -1, 0, 1, 255, 256, mostEpoch, mostEpoch + 1, mostNext - 1, mostNext, mostNext + 1, greatest - 1, greatest} {
		checkTransport(t, api.Packet{Epoch: n})
		checkTransport(t, api.Packet{To: n})
		checkTransport(t, api.Packet{Seq: n})
		checkTransport(t, api.Packet{Ack: n})
		checkTransport(t, api.Packet{Epoch: n, To: 1, Seq: 2, Ack: 3, Data: []byte("data")})
	}
	for _, k := range slices.Concat(validPackets(), faultyPackets()) {
		checkTransport(t, k)
	}
}

// P12.5: a packet whose encoding has more than 65536 bytes cannot be encoded; each byte 0 counts twice.
func TestEncodeLimit(t *testing.T) {
	const around = 9 // the encoding of a packet with four numbers 0 and no data
	for _, fill := range []byte{'a', 0} {
		most := api.MaxValue - around
		if fill == 0 {
			most /= 2
		}
		for _, n := range []int{0, 1, mostBytes, mostBytes + 1, most - 1, most, most + 1, api.MaxValue, api.MaxValue + 1, 1 << 20} {
			k := api.Packet{Data: bytes.Repeat([]byte{fill}, n)}
			checkTransport(t, k)
			if b, e := window.Encode(k); (e == api.OK) != (n <= most) || e != api.OK && (e != api.ErrLimit || len(b) > 0) {
				t.Fatalf("%d bytes %d: %d bytes, %v", n, fill, len(b), e)
			}
		}
	}
	longer := api.Packet{Epoch: 1, Data: bytes.Repeat([]byte{'a'}, api.MaxValue-around)}
	checkEncoded(t, longer, nil, api.ErrLimit)
}

// P12.5: what codec refuses, with its error.
func TestDecodeErrors(t *testing.T) {
	b, e := window.Encode(plainPacket())
	if e != api.OK {
		t.Fatal(e)
	}
	for n := range len(b) {
		checkDecoded(t, b[:n], api.Packet{}, api.ErrShort)
	}
	checkDecoded(t, append(slices.Clone(b), 0), api.Packet{}, api.ErrForm)
	for _, s := range []string{"\x41", "\x21\x00", "\x40\x20\x20\x20\x20\x30\x00\x01\x00", "\x40\x21\x00"} {
		checkDecoded(t, []byte(s), api.Packet{}, api.ErrForm)
	}
	checkDecoded(t, bytes.Repeat([]byte{0x40}, 17), api.Packet{}, api.ErrShort)
	checkDecoded(t, slices.Concat(bytes.Repeat([]byte{0x40}, 17), make([]byte, 17)), api.Packet{}, api.ErrLimit)
	checkDecoded(t, make([]byte, api.MaxValue+1), api.Packet{}, api.ErrLimit)
	for i := range b {
		for c := range 256 {
			changed := slices.Clone(b)
			changed[i] = byte(c)
			k, e := decodeOf(changed)
			checkDecoded(t, changed, k, e)
		}
	}
}

// P12.5: values of other shapes, in each place.
func TestDecodeShapes(t *testing.T) {
	one := integer(1)
	others := []api.Value{one, integer(-1), integer(0), text(""), text("a"), text("\x01"), list(), list(one), list(text("")), list(one, one, one, one, text(""))}
	check := func(v api.Value, want api.Errno) {
		t.Helper()
		b, e := codec.Encode(v)
		if e != api.OK {
			t.Fatal(e)
		}
		k, e := decodeOf(b)
		checkDecoded(t, b, k, e)
		if e != want {
			t.Fatalf("%v: %v", v, e)
		}
	}
	for _, v := range others {
		if len(v.L) < 5 {
			check(v, api.ErrShape)
		}
	}
	for _, k := range []api.Packet{{}, plainPacket(), {Epoch: -1, To: -2, Seq: -3, Ack: -4, Data: long(20)}} {
		v := valueOf(k)
		check(v, api.OK)
		for i := range v.L {
			for _, other := range others {
				want := api.ErrShape
				if other.Kind == v.L[i].Kind {
					want = api.OK
				}
				check(list(slices.Concat(v.L[:i], []api.Value{other}, v.L[i+1:])...), want)
				check(list(slices.Insert(slices.Clone(v.L), i, other)...), api.ErrShape)
			}
			check(list(slices.Delete(slices.Clone(v.L), i, i+1)...), api.ErrShape)
		}
		for n := range 5 {
			check(list(v.L[:n]...), api.ErrShape)
		}
		for _, other := range others {
			check(list(append(slices.Clone(v.L), other)...), api.ErrShape)
		}
		check(list(v.L[4], v.L[0], v.L[1], v.L[2], v.L[3]), api.ErrShape)
		check(list(v), api.ErrShape)
		check(list(v, v, v, v, v), api.ErrShape)
	}
}

// P12.5: Decode undoes Encode, and accepts only what Encode returns.
func TestTransportRandom(t *testing.T) {
	r := rand.New(rand.NewSource(5))
	number := func() int { return int(r.Uint64()) >> r.Intn(64) }
	for range 5000 {
		k := api.Packet{Epoch: number(), To: number(), Seq: number(), Ack: number(), Data: make([]byte, r.Intn(20))}
		r.Read(k.Data)
		checkTransport(t, k)
		b, _ := window.Encode(k)
		b[r.Intn(len(b))] ^= byte(1 << r.Intn(8))
		want, wantE := decodeOf(b)
		checkDecoded(t, b, want, wantE)
		if wantE == api.OK {
			checkEncoded(t, want, b, api.OK)
		}
	}
}
