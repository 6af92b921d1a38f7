package double

import (
	"math"

	"lanyard/nat"
)

const (
	// A finite double is a count, below 2^precision, of two to a unit, which is leastUnit or more. The count is 2^fraction or more, except with leastUnit.
	precision = 53
	fraction  = precision - 1
	leastUnit = -1074
)

// nearest is the double that is nearest to over by under, neither of which is 0; of two that are as near the even one.
func nearest(over, under []byte) float64 {
	// The two widths leave one bit open: a count that is too great by this unit fits by the next one.
	unit := max(width(over)-width(under)-precision, leastUnit)
	count, half := units(over, under, unit)
	if count >= 1<<precision {
		unit++
		count, half = units(over, under, unit)
	}
	if half > 0 || half == 0 && count&1 == 1 {
		count++
	}
	// Nothing is rounded again here: the count is a double, and so is what is made of it, or it is INF.
	return math.Ldexp(float64(count), unit)
}

// units is how many times two to the unit goes into over by under, and how what is left compares with half of that.
func units(over, under []byte, unit int) (uint64, int) {
	over = times(over, twoTo(max(-unit, 0)))
	under = times(under, twoTo(max(unit, 0)))
	count, rest := divided(over, under)
	return count, nat.Cmp(times(rest, []byte{2}), under)
}
