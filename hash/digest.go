package hash

import (
	"math/bits"
)

const (
	byteBits    = 8
	wordSize    = 4
	stateWords  = 8
	digestSize  = stateWords * wordSize
	blockSize   = 64
	blockWords  = blockSize / wordSize
	blockRounds = 64
	countSize   = 8
	firstBit    = 0x80
)

// roundWords are K: the first 32 bits of the fractions of the cube roots of the first 64 primes.
var roundWords = [blockRounds]uint32{
	0x428a2f98, 0x71374491, 0xb5c0fbcf, 0xe9b5dba5, 0x3956c25b, 0x59f111f1, 0x923f82a4, 0xab1c5ed5,
	0xd807aa98, 0x12835b01, 0x243185be, 0x550c7dc3, 0x72be5d74, 0x80deb1fe, 0x9bdc06a7, 0xc19bf174,
	0xe49b69c1, 0xefbe4786, 0x0fc19dc6, 0x240ca1cc, 0x2de92c6f, 0x4a7484aa, 0x5cb0a9dc, 0x76f988da,
	0x983e5152, 0xa831c66d, 0xb00327c8, 0xbf597fc7, 0xc6e00bf3, 0xd5a79147, 0x06ca6351, 0x14292967,
	0x27b70a85, 0x2e1b2138, 0x4d2c6dfc, 0x53380d13, 0x650a7354, 0x766a0abb, 0x81c2c92e, 0x92722c85,
	0xa2bfe8a1, 0xa81a664b, 0xc24b8b70, 0xc76c51a3, 0xd192e819, 0xd6990624, 0xf40e3585, 0x106aa070,
	0x19a4c116, 0x1e376c08, 0x2748774c, 0x34b0bcb5, 0x391c0cb3, 0x4ed8aa4a, 0x5b9cca4f, 0x682e6ff3,
	0x748f82ee, 0x78a5636f, 0x84c87814, 0x8cc70208, 0x90befffa, 0xa4506ceb, 0xbef9a3f7, 0xc67178f2,
}

// digest is SHA-256 under way. It is a value: a copy goes on for itself.
type digest struct {
	state [stateWords]uint32
	// rest holds the bytes that don't fill a block yet: held of them.
	rest [blockSize]byte
	held int
	// size is how many bytes were added in all.
	size uint64
}

// begin is the digest of no bytes yet: its state are the first 32 bits of the fractions of the square roots of the first eight primes.
func begin() digest {
	return digest{state: [stateWords]uint32{
		0x6a09e667, 0xbb67ae85, 0x3c6ef372, 0xa54ff53a, 0x510e527f, 0x9b05688c, 0x1f83d9ab, 0x5be0cd19,
	}}
}

// add takes bytes behind those that were added.
func (d *digest) add(bs ...[]byte) {
	for _, b := range bs {
		d.size += uint64(len(b))
		for len(b) > 0 {
			if d.held == 0 && len(b) >= blockSize {
				d.state = mixed(d.state, b[:blockSize:blockSize])
				b = b[blockSize:]
				continue
			}
			took := copy(d.rest[d.held:], b)
			d.held += took
			b = b[took:]
			if d.held == blockSize {
				d.state = mixed(d.state, d.rest[:])
				d.held = 0
			}
		}
	}
}

// end is the digest of all that was added; d is of no use behind it.
func (d *digest) end() [digestSize]byte {
	var count [countSize]byte
	for i := range count {
		count[i] = byte(d.size * byteBits >> (byteBits * (countSize - 1 - i)))
	}
	// The bit and the noughts reach to where the count fills a block.
	fill := [blockSize]byte{firstBit}
	need := 1 + (2*blockSize-countSize-1-d.held)%blockSize
	d.add(fill[:need:need], count[:])
	var sum [digestSize]byte
	for i, x := range d.state {
		word := wordBytes(x)
		copy(sum[i*wordSize:], word[:])
	}
	return sum
}

// mixed is the state behind the bytes of one more block.
func mixed(state [stateWords]uint32, block []byte) [stateWords]uint32 {
	w := schedule(block)
	a, b, c, d, e, f, g, h := state[0], state[1], state[2], state[3], state[4], state[5], state[6], state[7]
	for t := range w {
		t1 := h + bigSigma1(e) + choice(e, f, g) + roundWords[t] + w[t]
		t2 := bigSigma0(a) + majority(a, b, c)
		h, g, f, e, d, c, b, a = g, f, e, d+t1, c, b, a, t1+t2
	}
	for i, x := range [stateWords]uint32{a, b, c, d, e, f, g, h} {
		state[i] += x
	}
	return state
}

// schedule are the words W of a block.
func schedule(block []byte) [blockRounds]uint32 {
	var w [blockRounds]uint32
	for t := range blockWords {
		four := block[t*wordSize : (t+1)*wordSize]
		w[t] = uint32(four[0])<<24 | uint32(four[1])<<16 | uint32(four[2])<<8 | uint32(four[3])
	}
	for t := blockWords; t < blockRounds; t++ {
		w[t] = smallSigma1(w[t-2]) + w[t-7] + smallSigma0(w[t-15]) + w[t-16]
	}
	return w
}

// wordBytes are the bytes of a word, the greatest first.
func wordBytes(x uint32) [wordSize]byte {
	return [wordSize]byte{byte(x >> 24), byte(x >> 16), byte(x >> 8), byte(x)}
}

// right is x rotated right by n bits.
func right(x uint32, n int) uint32 {
	return bits.RotateLeft32(x, -n)
}

func smallSigma0(x uint32) uint32 {
	return right(x, 7) ^ right(x, 18) ^ x>>3
}

func smallSigma1(x uint32) uint32 {
	return right(x, 17) ^ right(x, 19) ^ x>>10
}

func bigSigma0(x uint32) uint32 {
	return right(x, 2) ^ right(x, 13) ^ right(x, 22)
}

func bigSigma1(x uint32) uint32 {
	return right(x, 6) ^ right(x, 11) ^ right(x, 25)
}

// choice has each bit of y where x has a 1, else that of z.
func choice(x, y, z uint32) uint32 {
	return x&y ^ ^x&z
}

// majority has each bit that two of the three have.
func majority(x, y, z uint32) uint32 {
	return x&y ^ x&z ^ y&z
}
