package frame

// remainders contains what four bits that leave the register at its lower end put into it: the polynomial 0xedb88320 once for each of them that is set when it leaves.
var remainders = [16]uint32{
	0x00000000, 0x1db71064, 0x3b6e20c8, 0x26d930ac, 0x76dc4190, 0x6b6b51f4, 0x4db26158, 0x5005713c,
	0xedb88320, 0xf00f9344, 0xd6d6a3e8, 0xcb61b38c, 0x9b64c2b0, 0x86d3d2d4, 0xa00ae278, 0xbdbdf21c,
}

// Crc returns the CRC-32 of b (IEEE 802.3).
func Crc(b []byte) (c uint32) {
	c = 0xffffffff
	for _, x := range b {
		c ^= uint32(x)
		c = c>>4 ^ remainders[c&0xf]
		c = c>>4 ^ remainders[c&0xf]
	}
	return ^c
}

// checksum returns the bytes of the checksum of b, most significant first.
func checksum(b []byte) (s [sumSize]byte) {
	c := Crc(b)
	for i := range s {
		s[i] = byte(c >> (24 - 8*i))
	}
	return s
}
