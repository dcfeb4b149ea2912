// Package tally is layer 1, the sum known as CRC-32C: see shared/doc/01-tally.md.
package tally

// generator is what a step xors in. A number of 32 bits is a remainder by it, whose highest bit stands for 1 and whose lowest one for x to the power 31: a step multiplies by x.
const generator = 0x82f63b78

// four has what four steps make of the four bits that fall out. Steps are linear, so the bits above these are only shifted, and xored in behind.
var four = [16]uint32{
	0x00000000, 0x105ec76f, 0x20bd8ede, 0x30e349b1,
	0x417b1dbc, 0x5125dad3, 0x61c69362, 0x7198540d,
	0x82f63b78, 0x92a8fc17, 0xa24bb5a6, 0xb21572c9,
	0xc38d26c4, 0xd3d3e1ab, 0xe330a81a, 0xf36e6f75,
}

// More goes on with a sum.
func More(c uint32, b []byte) uint32 {
	c = ^c
	for _, x := range b {
		c ^= uint32(x)
		c = four[c&15] ^ c>>4
		c = four[c&15] ^ c>>4
	}
	return ^c
}

// Sum is that of bytes.
func Sum(b []byte) uint32 {
	return More(0, b)
}

// Zeros goes on with n bytes 0. They multiply by x to the power 8n: squaring gets there in as many rounds as n has bits, so that the greatest n ends as well.
func Zeros(c uint32, n int) uint32 {
	power := uint32(1) << (31 - 8)
	double := func() { power = times(power, power) }
	c = ^c
	for ; n > 0; n >>= 1 {
		if n&1 == 1 {
			c = times(c, power)
		}
		double()
	}
	return ^c
}

// times multiplies two remainders.
func times(a, b uint32) uint32 {
	product := uint32(0)
	for ; b != 0; b <<= 1 {
		if b>>31 == 1 {
			product ^= a
		}
		a = step(a)
	}
	return product
}

func step(c uint32) uint32 {
	if c&1 == 1 {
		return c>>1 ^ generator
	}
	return c >> 1
}
