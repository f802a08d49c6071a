package sign

import (
	"math/bits"

	"wagonpool/api"
)

// Pow returns b to the power of n, modulo P.
func Pow(b, n uint64) (x uint64) {
	times := productModulo(api.P)
	x = 1
	for i := range bits.Len64(n) {
		if n>>i&1 == 1 {
			x = times(x, b)
		}
		b = times(b, b)
	}
	return x
}

// productModulo returns a function that multiplies modulo m; its arguments need not be less than m. A product has up to 128 bits, so it is divided before it fits a number again.
func productModulo(m uint64) func(a, b uint64) uint64 {
	return func(a, b uint64) uint64 {
		high, low := bits.Mul64(a, b)
		return bits.Rem64(high, low, m)
	}
}
