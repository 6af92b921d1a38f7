package double

import (
	"math"
	"math/bits"

	"lanyard/nat"
)

// levels is a mask for the bits of a float64 that tell its unit, once the fraction's are shifted out.
const levels = 1<<11 - 1

// split is the count and the unit of a double that is finite and above 0.
func split(x float64) (uint64, int) {
	b := math.Float64bits(x)
	count, level := b&(1<<fraction-1), int(b>>fraction&levels)
	if level == 0 {
		return count, leastUnit
	}
	return count | 1<<fraction, leastUnit + level - 1
}

// around is what a double has left behind its digits so far, and how far below and above it numbers still have it as their value. Each of these is a whole number, and under is what a 1 as the next digit stands for.
type around struct {
	left, below, above []byte
	under              []byte
	even               bool
}

// shortest is the fewest digits whose value is x, which is finite and above 0, of several such the nearest to it; and the first one's power of ten.
func shortest(x float64) (string, int) {
	a, power := begin(x)
	var digits []byte
	for {
		digit, last := a.next()
		if digit == 10 {
			// Ahead of it stands no digit that could rise: with one, the digits up to that one would have done.
			return "1", power + 1
		}
		digits = append(digits, '0'+byte(digit))
		if last {
			return string(digits), power
		}
	}
}

// begin is x with no digits taken, and the first one's power of ten.
func begin(x float64) (around, int) {
	count, unit := split(x)
	// All is told in quarters of two to the unit, so that halfway to the doubles beside x is whole.
	scale, toBelow := twoTo(max(unit, 0)), byte(2)
	if count == 1<<fraction && unit > leastUnit {
		// Below a power of two they lie half as far apart.
		toBelow = 1
	}
	// This is the power of ten of a power of two that is more than half of x: it may be one too low.
	power := int(math.Floor(float64(bits.Len64(count)-1+unit) * (math.Ln2 / math.Ln10)))
	up, down := tenTo(max(-power, 0)), tenTo(max(power, 0))
	a := around{
		left:  times(whole(count), []byte{4}, scale, up),
		below: times([]byte{toBelow}, scale, up),
		above: times([]byte{2}, scale, up),
		under: times([]byte{4}, twoTo(max(-unit, 0)), down),
		even:  count&1 == 0,
	}
	if next := times(a.under, []byte{10}); nat.Cmp(a.left, next) >= 0 {
		a.under, power = next, power+1
	}
	return a, power
}

// next is the next digit (10: the digits ahead of it rise by one), and whether it is the last one.
func (a *around) next() (uint64, bool) {
	digit, left := divided(a.left, a.under)
	rise := less(a.under, left)
	down, up := a.reaches(left, a.below), a.reaches(rise, a.above)
	if up && !(down && keeps(digit, left, rise)) {
		return digit + 1, true
	}
	ten := []byte{10}
	a.left, a.below, a.above = times(left, ten), times(a.below, ten), times(a.above, ten)
	return digit, down
}

// reaches: has a number so far from the double still its value, if those have that are nearer than far? Far itself is halfway to the next double, and there the even one is the value.
func (a *around) reaches(distance, far []byte) bool {
	n := nat.Cmp(distance, far)
	return n < 0 || n == 0 && a.even
}

// keeps: is a digit nearer than the one above it, or as near and even?
func keeps(digit uint64, left, rise []byte) bool {
	n := nat.Cmp(left, rise)
	return n < 0 || n == 0 && digit&1 == 0
}
