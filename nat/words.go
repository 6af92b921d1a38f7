package nat

import (
	"math"
	"math/bits"
	"slices"
)

const (
	byteBits  = 8
	wordBits  = 64
	wordBytes = wordBits / byteBits
)

// words is a number by 64 bits at a time, the least first, the last of them not 0.
type words []uint64

// fromBytes is the number of those bytes.
func fromBytes(b []byte) words {
	b = bare(b)
	w := make(words, (len(b)+wordBytes-1)/wordBytes)
	for i, x := range b {
		place := len(b) - 1 - i
		w[place/wordBytes] |= uint64(x) << (place % wordBytes * byteBits)
	}
	return w
}

// toBytes are the number's bytes, the greatest first, without leading noughts.
func (w words) toBytes() []byte {
	b := make([]byte, len(w)*wordBytes)
	for i := range b {
		place := len(b) - 1 - i
		b[i] = byte(w[place/wordBytes] >> (place % wordBytes * byteBits))
	}
	return bare(b)
}

// trimmed is w without the noughts at its end.
func trimmed(w words) words {
	for len(w) > 0 && w[len(w)-1] == 0 {
		w = w[:len(w)-1]
	}
	return w
}

// sum is a + b.
func sum(a, b words) words {
	out := make(words, max(len(a), len(b))+1)
	copy(out, a)
	addTo(out, b)
	return trimmed(out)
}

// difference is a - b; b is not above a.
func difference(a, b words) words {
	out := slices.Clone(a)
	takeFrom(out, b, 1)
	return trimmed(out)
}

// product is a b.
func product(a, b words) words {
	out := make(words, len(a)+len(b))
	for i, x := range a {
		part := out[i : i+len(b)]
		var carry, c uint64
		for j, y := range b {
			high, low := bits.Mul64(x, y)
			low, c = bits.Add64(low, part[j], 0)
			high, _ = bits.Add64(high, 0, c)
			part[j], c = bits.Add64(low, carry, 0)
			carry, _ = bits.Add64(high, 0, c)
		}
		out[i+len(b)] = carry
	}
	return trimmed(out)
}

// divide is the quotient and the rest of a by b, which isn't 0.
func divide(a, b words) (words, words) {
	if len(a) < len(b) {
		return nil, a
	}
	// Both are doubled till the divisor's highest bit is 1, as guess needs it. The quotient stays the same, the rest is halved again.
	by := bits.LeadingZeros64(b[len(b)-1])
	rest, divisor := shiftUp(a, by), trimmed(shiftUp(b, by))
	quotient := make(words, len(rest)-len(divisor))
	for i := len(quotient) - 1; i >= 0; i-- {
		part := rest[i : i+len(divisor)+1]
		quotient[i] = guess(part, divisor)
		if takeFrom(part, divisor, quotient[i]) {
			quotient[i]--
			addTo(part, divisor)
		}
	}
	return trimmed(quotient), trimmed(shiftDown(rest, by))
}

// guess is how many times v can be taken from u, or one more. u has one word more than v, and is below v times 2^64; v's highest bit is 1.
func guess(u, v words) uint64 {
	n := len(v)
	top := v[n-1]
	var times, rest, over uint64
	if u[n] < top {
		times, rest = bits.Div64(u[n], u[n-1], top)
	} else {
		times = math.MaxUint64
		rest, over = bits.Add64(u[n-1], top, 0)
	}
	// The highest word alone may guess too much by 2; the next one mends nearly all of it.
	for n > 1 && over == 0 {
		high, low := bits.Mul64(times, v[n-2])
		if high < rest || high == rest && low <= u[n-2] {
			break
		}
		times--
		rest, over = bits.Add64(rest, top, 0)
	}
	return times
}

// addTo adds v to u, which is no shorter than v. What is carried beyond u is lost.
func addTo(u, v words) {
	var carry uint64
	for i, x := range v {
		u[i], carry = bits.Add64(u[i], x, carry)
	}
	for i := len(v); i < len(u); i++ {
		u[i], carry = bits.Add64(u[i], 0, carry)
	}
}

// takeFrom takes v from u, which is no shorter than v, so many times. Does it come below 0?
func takeFrom(u, v words, times uint64) bool {
	var carry, c uint64
	part := u[:len(v)]
	for i, x := range v {
		high, low := bits.Mul64(x, times)
		low, c = bits.Add64(low, carry, 0)
		high, _ = bits.Add64(high, 0, c)
		part[i], c = bits.Sub64(part[i], low, 0)
		carry, _ = bits.Add64(high, 0, c)
	}
	for i := len(v); i < len(u); i++ {
		u[i], carry = bits.Sub64(u[i], carry, 0)
	}
	return carry != 0
}

// shiftUp is a, doubled so many times, below 64, with a word of room at its end.
func shiftUp(a words, times int) words {
	out := make(words, len(a)+1)
	for i, x := range a {
		out[i] |= x << times
		out[i+1] = x >> (wordBits - times)
	}
	return out
}

// shiftDown is a, halved so many times, below 64.
func shiftDown(a words, times int) words {
	out := make(words, len(a))
	for i, x := range a {
		out[i] = x >> times
		if i > 0 {
			out[i-1] |= x << (wordBits - times)
		}
	}
	return out
}
