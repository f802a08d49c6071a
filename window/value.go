package window

import (
	"wagonpool/api"
	"wagonpool/codec"
)

// Encode returns the bytes of a packet.
func Encode(k api.Packet) (b []byte, e api.Errno) {
	v := api.Value{Kind: api.ListV}
	for _, n := range []int{k.Epoch, k.To, k.Seq, k.Ack} {
		v.L = append(v.L, api.Value{Kind: api.IntV, N: n})
	}
	v.L = append(v.L, api.Value{Kind: api.BytesV, B: k.Data})
	return codec.Encode(v)
}

// Decode returns the packet with these bytes.
func Decode(b []byte) (k api.Packet, e api.Errno) {
	v, e := codec.Decode(b)
	if e != api.OK {
		return api.Packet{}, e
	}
	numbers := []*int{&k.Epoch, &k.To, &k.Seq, &k.Ack}
	if v.Kind != api.ListV || len(v.L) != len(numbers)+1 {
		return api.Packet{}, api.ErrShape
	}
	for i, n := range numbers {
		if v.L[i].Kind != api.IntV {
			return api.Packet{}, api.ErrShape
		}
		*n = v.L[i].N
	}
	data := v.L[len(numbers)]
	if data.Kind != api.BytesV {
		return api.Packet{}, api.ErrShape
	}
	k.Data = data.B
	return k, api.OK
}
