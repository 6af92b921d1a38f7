package double

import (
	"math/bits"

	"lanyard/nat"
)

// Layer 6's errors are left out in this file: texts of 200 bytes and doubles need numbers of less than half the bytes that it takes, no difference here is below 0, and nothing is divided by 0.

// number is what digits tell, as a whole number.
func number(digits string) []byte {
	var n []byte
	for i := range len(digits) {
		n, _ = nat.Add(times(n, []byte{10}), []byte{digits[i] - '0'})
	}
	return n
}

// times is a product.
func times(a []byte, others ...[]byte) []byte {
	for _, b := range others {
		a, _ = nat.Mul(a, b)
	}
	return a
}

// less is a difference.
func less(a, b []byte) []byte {
	difference, _ := nat.Sub(a, b)
	return difference
}

// divided is a quotient, which fits into 64 bits, and a rest.
func divided(a, b []byte) (uint64, []byte) {
	quotient, rest, _ := nat.Div(a, b)
	var n uint64
	for _, x := range quotient {
		n = n<<8 | uint64(x)
	}
	return n, rest
}

// whole is n as a number of layer 6.
func whole(n uint64) []byte {
	b := make([]byte, 8)
	for i := range b {
		b[len(b)-1-i] = byte(n >> (8 * i))
	}
	return nat.Trim(b)
}

// twoTo is a power of two.
func twoTo(power int) []byte {
	b := make([]byte, power/8+1)
	b[0] = 1 << (power % 8)
	return b
}

// tenTo is a power of ten.
func tenTo(power int) []byte {
	product, square := []byte{1}, []byte{10}
	for ; power > 0; power >>= 1 {
		if power&1 == 1 {
			product = times(product, square)
		}
		square = times(square, square)
	}
	return product
}

// width is how many bits a number has that isn't 0, from its first 1 on.
func width(a []byte) int {
	a = nat.Trim(a)
	return 8*(len(a)-1) + bits.Len8(a[0])
}
