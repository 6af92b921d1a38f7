package double

import (
	"math"
	"math/big"
	"math/rand"
	"regexp"
	"strconv"
	"strings"
)

// This file has a second reading of the chapter, by the library's fractions: slow, and as plain as its words.

var plainText = regexp.MustCompile(`^[+-]?([0-9]+\.?[0-9]*|\.[0-9]+)([eE][+-]?[0-9]+)?$`)

// plainParse is the value of a text with no blanks around it: is it one?
func plainParse(s string) (float64, bool) {
	switch s {
	case "NaN":
		return math.NaN(), true
	case "INF":
		return math.Inf(1), true
	case "-INF":
		return math.Inf(-1), true
	}
	if !plainText.MatchString(s) {
		return 0, false
	}
	x, _ := strconv.ParseFloat(s, 64)
	return x, true
}

// tens is ten to a power, below 0 too.
func tens(power int) *big.Rat {
	whole := new(big.Int).Exp(big.NewInt(10), big.NewInt(int64(max(power, -power))), nil)
	if power < 0 {
		return new(big.Rat).SetFrac(big.NewInt(1), whole)
	}
	return new(big.Rat).SetInt(whole)
}

// twos is two to a power, below 0 too.
func twos(power int) *big.Rat {
	whole := new(big.Int).Lsh(big.NewInt(1), uint(max(power, -power)))
	if power < 0 {
		return new(big.Rat).SetFrac(big.NewInt(1), whole)
	}
	return new(big.Rat).SetInt(whole)
}

// plainPrint is the canonical text of a double: of each count of digits, from one on, it tries the number below and the one above.
func plainPrint(x float64) string {
	switch {
	case x != x:
		return "NaN"
	case math.Signbit(x):
		return "-" + plainPrint(math.Copysign(x, 1))
	case math.IsInf(x, 1):
		return "INF"
	case x == 0:
		return "0.0E0"
	}
	exact := new(big.Rat).SetFloat64(x)
	power := int(math.Floor(math.Log10(x)))
	for exact.Cmp(tens(power)) < 0 {
		power--
	}
	for exact.Cmp(tens(power+1)) >= 0 {
		power++
	}
	for size := 1; ; size++ {
		if n := plainDigits(x, exact, tens(power-size+1)); n != nil {
			return plainLayout(n.String(), power, size)
		}
	}
}

// plainDigits is the number of steps, nearest to exact, whose value is x, or nil.
func plainDigits(x float64, exact, step *big.Rat) *big.Int {
	steps := new(big.Rat).Quo(exact, step)
	low := new(big.Int).Quo(steps.Num(), steps.Denom())
	high := new(big.Int).Add(low, big.NewInt(1))
	is := func(n *big.Int) bool {
		value, _ := new(big.Rat).Mul(new(big.Rat).SetInt(n), step).Float64()
		return value == x
	}
	half := new(big.Rat).SetFrac(new(big.Int).Add(low, high), big.NewInt(2))
	nearer := half.Cmp(steps)
	switch {
	case is(low) && is(high):
		if nearer < 0 || nearer == 0 && low.Bit(0) == 1 {
			return high
		}
		return low
	case is(low):
		return low
	case is(high):
		return high
	}
	return nil
}

// plainLayout lays digits out, of which there may be one more than size: 10 stands for 1 and a power more.
func plainLayout(digits string, power, size int) string {
	power += len(digits) - size
	rest := strings.TrimRight(digits[1:], "0")
	if rest == "" {
		rest = "0"
	}
	return digits[:1] + "." + rest + "E" + strconv.Itoa(power)
}

// sameBits: are doubles the same, as the chapter says it?
func sameBits(a, b float64) bool {
	if a != a || b != b {
		return a != a && b != b
	}
	return math.Float64bits(a) == math.Float64bits(b)
}

const (
	least         = 0x1p-1074
	mostSubnormal = 0x1p-1022 - 0x1p-1074
	leastNormal   = 0x1p-1022
)

// edges are the doubles at the edges, and those beside them; of these some have a minus.
func edges() []float64 {
	list := []float64{0, math.Inf(1), math.MaxFloat64, least, mostSubnormal, leastNormal, 1, 0x1p52, 0x1p53, 0x1p54, 0x1p63, 0x1p64, 1e15, 1e16, 1e17, 1e21, 1e22, 1e23, 1e300, 1e-300, 0.1, 0.5, 1.5, 100, 123456, math.Pi}
	for power := -1074; power < 1024; power++ {
		list = append(list, math.Ldexp(1, power))
	}
	for power := -323; power <= 308; power++ {
		x, _ := tens(power).Float64()
		list = append(list, x)
	}
	for _, x := range list {
		list = append(list, math.Nextafter(x, 0), math.Nextafter(x, math.Inf(1)))
	}
	for i := 0; i < len(list); i += 3 {
		list[i] = -list[i]
	}
	return append(list, nans()...)
}

// nans are NaN by several bit patterns: quiet and not, with and without a sign, all bits set.
func nans() []float64 {
	var list []float64
	for _, b := range []uint64{0x7FF8000000000001, 0x7FF8000000000000, 0x7FF0000000000001, 0x7FF7FFFFFFFFFFFF, 0xFFF8000000000000, 0xFFF0000000000001, 0x7FFFFFFFFFFFFFFF, 0xFFFFFFFFFFFFFFFF} {
		list = append(list, math.Float64frombits(b))
	}
	return list
}

// someDoubles are so many doubles, of all sizes.
func someDoubles(seed int64, many int) []float64 {
	r := rand.New(rand.NewSource(seed))
	var list []float64
	for len(list) < many {
		// Any bits; few digits; few bits; near 1.
		list = append(list, math.Float64frombits(r.Uint64()), float64(r.Intn(100000))/math.Pow(10, float64(r.Intn(30))), math.Ldexp(float64(r.Intn(1000)), r.Intn(2000)-1060), r.NormFloat64())
	}
	return list
}
