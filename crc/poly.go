package crc

// A number stands for a polynomial over two elements: its highest bit is 1, the bit below it x, and so
// on to its lowest bit, x to the 31st. It is reckoned modulo the polynomial of CRC-32C.
const (
	one   = 1 << 31    // x to the 0th
	xTo8  = one >> 8   // a byte 0 is taken in by a product with this
	xTo32 = 0x82f63b78 // what the polynomial leaves of x to the 32nd
)

type table [256]uint32

// fill makes the number at each place: the place times x to the 8th. Since each call needs a table of
// its own, it takes one step a place: the number of a sum of places is the sum of their numbers.
func (t *table) fill() {
	c := uint32(xTo32) // the number at 128, the place that stands for x to the 24th
	for place := len(t) / 2; place > 0; place /= 2 {
		for i := 0; i < len(t); i += 2 * place {
			t[i+place] = t[i] ^ c
		}
		c = timesX(c)
	}
}

func timesX(c uint32) uint32 {
	if c&1 == 1 {
		return c>>1 ^ xTo32
	}
	return c >> 1
}

func product(a, b uint32) uint32 {
	var sum uint32
	for ; a != 0; a <<= 1 {
		if a&one != 0 {
			sum ^= b
		}
		b = timesX(b)
	}
	return sum
}

// behindZeros tells c when n bytes 0 have been taken in behind it. It squares its way through the bits
// of n, since n may be far beyond what could be taken in byte by byte.
func behindZeros(c uint32, n int) uint32 {
	power := uint32(xTo8)
	for ; n > 0; n >>= 1 {
		if n&1 == 1 {
			c = product(c, power)
		}
		power = product(power, power)
	}
	return c
}
