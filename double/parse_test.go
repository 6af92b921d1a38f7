package double

import (
	"math"
	"math/big"
	"math/rand"
	"strconv"
	"strings"
	"testing"

	"lanyard/api"
)

var minusNought = math.Copysign(0, -1)

func parses(t *testing.T, s string, want float64) {
	t.Helper()
	if x, err := Parse(s); err != api.OK || !sameBits(x, want) {
		t.Errorf("P9.1: Parse(%q): %v, %d, not %v", s, x, err, want)
	}
}

func refuses(t *testing.T, s string, want api.Errno) {
	t.Helper()
	if x, err := Parse(s); err != want || math.Float64bits(x) != 0 {
		t.Errorf("P9.1: Parse(%q): %v, %d, not error %d", s, x, err, want)
	}
}

func TestParse(t *testing.T) {
	for s, want := range map[string]float64{
		"NaN": math.NaN(), "INF": math.Inf(1), "-INF": math.Inf(-1),
		"0": 0, "-0": minusNought, "+0": 0, "-0.0E0": minusNought, "-.0": minusNought, "0e999": 0, "-0e-999": minusNought, "0.000": 0,
		"1": 1, "+1": 1, "-1": -1, "1.": 1, ".5": 0.5, "-.5": -0.5, "+.5": 0.5, "5.": 5, "-5.e1": -50, "1.5": 1.5, "12.25": 12.25, "-12.25": -12.25,
		"1e2": 100, "1E2": 100, "1e+2": 100, "1E-2": 0.01, "+3e2": 300, ".5e1": 5, "1.25E0": 1.25, "100e-2": 1, "1e0": 1, "1e-0": 1, "1e+0": 1,
		"0.1": 0.1, "00.10": 0.1, "0.3": 0.3, "123456789": 123456789, "3.141592653589793": math.Pi,
		"1e22": 1e22, "1e23": 1e23, "8.5e22": 8.5e22, "1e308": 1e308, "1e-307": 1e-307,
	} {
		parses(t, s, want)
	}
}

func TestParseOfBlanks(t *testing.T) {
	for s, want := range map[string]float64{
		" 1.5\n": 1.5, "\t\r\n -2e1 \r": -20, "  INF": math.Inf(1), "-INF\t": math.Inf(-1), "\nNaN ": math.NaN(), " 0 ": 0, "\n-0": minusNought,
	} {
		parses(t, s, want)
	}
	for _, s := range []string{"1 5", "1\t5", "- 1", "1 .5", "1. 5", "1 e5", "1e 5", "1e- 5", "- INF", "I NF", "N aN", "\v1", "1\f", "\u00A01", "1\u2003", "\x001", "1\x00", "\uFEFF1"} {
		refuses(t, s, api.ErrForm)
	}
}

func TestParseOfWrongTexts(t *testing.T) {
	for _, s := range []string{
		"", " ", "\t\r\n", ".", "-", "+", "-.", "+.", "..", "e", "E", "e1", "E5", ".e1", "-e1", "+.e1",
		"1e", "1E", "1e+", "1e-", "1.e", "1.5E-", "1e.", "1e.5", "1e1.5", "1e5.", "1ee5", "1e5e5", "1e5E", "1eE5",
		"--1", "++1", "+-1", "-+1", "1-", "1+", "1-2", "1e--5", "1e+-5", "1e5-", "-+0", "1+e5",
		"1.2.3", "1..2", "..1", "1..", ".1.", "1.2.", ".1.2",
		"+INF", "+NaN", "-NaN", "inf", "-inf", "Inf", "INFINITY", "Infinity", "-Infinity", "nan", "NAN", "Nan", "INFx", "NaN0", "--INF", "INF.", "INFe1", "NaNNaN", "INF NaN",
		"0x1p3", "0x1", "1A", "F", "0b1", "0o7", "1p3", "1f", "1d", "1L", "1_0", "_1", "1_", "1e1_0", "1,5", "1'0", "$1", "1%", "(1)", "1/2", "#1", "\"1\"",
		"\xFF", "1\xFF", "\xC3", "1\xC0\x80", "\xEF\xBC\x91", "\u0661", "1\u0660", "\u2212\x31", "1\u00B2", "\U0001D7CF", "é", "/", ":", "1/", "1:",
	} {
		refuses(t, s, api.ErrForm)
	}
}

func TestParseOfLongTexts(t *testing.T) {
	fill := strings.Repeat
	for s, want := range map[string]float64{
		fill("0", 199): 0, fill("0", 200): 0, "-" + fill("0", 199): minusNought, "." + fill("0", 199): 0,
		fill("0", 198) + "7": 7, fill("0", 199) + "7": 7, "-" + fill("0", 198) + "7": -7,
		"7" + fill("0", 198): 7e198, "7" + fill("0", 199): 7e199,
		"." + fill("0", 197) + "7": 7e-198, "." + fill("0", 198) + "7": 7e-199,
		"2." + fill("0", 198): 2, "1." + fill("0", 194) + "e300": 1e300,
		fill(" ", 199) + "1": 1, "1" + fill("\n", 198): 1, fill("\t", 100) + "12" + fill("\r", 98): 12, fill(" ", 197) + "INF": math.Inf(1), fill(" ", 197) + "NaN": math.NaN(), fill(" ", 196) + "-INF": math.Inf(-1),
		"1e" + fill("0", 197): 1, "1e" + fill("0", 198): 1, "1e" + fill("0", 197) + "5": 1e5, "1e-" + fill("0", 196) + "5": 1e-5, "1e+" + fill("0", 194) + "308": 1e308, "1e-" + fill("0", 194) + "400": 0,
		"1e" + fill("9", 198): math.Inf(1), "-1e" + fill("9", 197): math.Inf(-1), "1e-" + fill("9", 197): 0, "-1e-" + fill("9", 196): minusNought, "0e" + fill("9", 198): 0, "-0e" + fill("9", 197): minusNought,
		"." + fill("3", 199): 1.0 / 3, fill("3", 195) + "e-195": 1.0 / 3, fill("6", 195) + "e-195": 2.0 / 3,
	} {
		parses(t, s, want)
	}
	for _, s := range []string{fill("0", 201), fill(" ", 200) + "1", "1" + fill(" ", 200), fill(" ", 201), fill(" ", 198) + "INF", fill("x", 201), fill("\xFF", 201), fill("1", 1<<20), "1e" + fill("0", 199)} {
		refuses(t, s, api.ErrLong)
	}
	for _, s := range []string{fill(" ", 199), fill(" ", 200), fill("x", 200), fill("\xFF", 200), fill("1", 199) + "e", fill("0", 199) + "x", fill(" ", 198) + "1e"} {
		refuses(t, s, api.ErrForm)
	}
}

// A power far off may be made up for by digits, of which a text has 200 at most.
func TestParseOfFarPowers(t *testing.T) {
	fill := strings.Repeat
	for s, want := range map[string]float64{
		"1e400": math.Inf(1), "-1E400": math.Inf(-1), "1e-400": 0, "-1e-400": minusNought, "1e309": math.Inf(1), "1e310": math.Inf(1), "9e308": math.Inf(1), "1e-324": 0, "9.9e-325": 0, "9e-324": 1e-323,
		"0." + fill("0", 190) + "1e191": 1, "0." + fill("0", 190) + "1e499": 1e308, "0." + fill("0", 190) + "1e500": math.Inf(1), "0." + fill("0", 189) + "1e-133": 1e-323, "0." + fill("0", 189) + "1e-134": 0,
		"1" + fill("0", 190) + "e-190": 1, "1" + fill("0", 190) + "e-513": 1e-323, "1" + fill("0", 190) + "e-514": 0, "1" + fill("0", 190) + "e118": 1e308, "1" + fill("0", 190) + "e119": math.Inf(1),
		"1" + fill("0", 190) + "e10000": math.Inf(1), "1" + fill("0", 190) + "e-10000": 0, "." + fill("0", 190) + "1e9999": math.Inf(1), "." + fill("0", 190) + "1e99999": math.Inf(1), "1e-9999": 0, "1e-99999": 0,
		"1e9223372036854775807": math.Inf(1), "1e9223372036854775808": math.Inf(1), "1e18446744073709551616": math.Inf(1), "1e18446744073709551617": math.Inf(1), "1e-9223372036854775808": 0, "1e-9223372036854775809": 0, "1e-18446744073709551615": 0, "1e4294967296": math.Inf(1), "-1e-4294967296": minusNought,
	} {
		parses(t, s, want)
	}
}

// firstDigits are so many of the first digits of a number above 0, cut off, and the power of ten that goes with them as a whole number.
func firstDigits(x *big.Rat, many int) (*big.Int, int) {
	cut := func(power int) *big.Int {
		scaled := new(big.Rat).Mul(x, tens(-power))
		return new(big.Int).Quo(scaled.Num(), scaled.Denom())
	}
	power := 310
	for len(cut(power).String()) < many {
		power--
	}
	return cut(power), power
}

// changes looks whether the values change from low to high at x, which lies halfway between two doubles.
func changes(t *testing.T, what string, x *big.Rat, low, high float64) {
	t.Helper()
	for _, many := range []int{18, 40, 190} {
		n, power := firstDigits(x, many)
		parses(t, n.String()+"e"+strconv.Itoa(power), low)
		parses(t, "-"+n.String()+"e"+strconv.Itoa(power), -low)
		n.Add(n, big.NewInt(1))
		parses(t, n.String()+"e"+strconv.Itoa(power), high)
		parses(t, "-"+n.String()+"e"+strconv.Itoa(power), -high)
	}
	if t.Failed() {
		t.Fatalf("P9.1: the numbers just below and above %s", what)
	}
}

func TestParseAtTheEnds(t *testing.T) {
	changes(t, "2^1024 - 2^970", new(big.Rat).Sub(twos(1024), twos(970)), math.MaxFloat64, math.Inf(1))
	changes(t, "half the least double", twos(-1075), 0, least)
	changes(t, "halfway from the greatest subnormal", new(big.Rat).Sub(twos(-1022), twos(-1075)), mostSubnormal, leastNormal)
	changes(t, "halfway from the least normal", new(big.Rat).Add(twos(-1022), twos(-1075)), leastNormal, math.Nextafter(leastNormal, 1))
	changes(t, "halfway up to the greatest", new(big.Rat).Sub(twos(1024), new(big.Rat).Mul(big.NewRat(3, 1), twos(970))), math.Nextafter(math.MaxFloat64, 0), math.MaxFloat64)
	for s, want := range map[string]float64{
		"1.7976931348623157e308": math.MaxFloat64, "1.7976931348623158e308": math.MaxFloat64, "-1.7976931348623158e308": -math.MaxFloat64, "1.7976931348623159e308": math.Inf(1), "-1.7976931348623159e308": math.Inf(-1),
		"2.4703282292062327e-324": 0, "-2.4703282292062327e-324": minusNought, "2.4703282292062328e-324": least, "-2.4703282292062328e-324": -least, "4.9e-324": least, "5e-324": least, "7.4e-324": least, "7.5e-324": 2 * least,
		"2.2250738585072009e-308": mostSubnormal, "2.2250738585072014e-308": leastNormal, "2.2250738585072011e-308": mostSubnormal, "2.2250738585072012e-308": leastNormal,
	} {
		parses(t, s, want)
	}
}

// The ends themselves have more digits than a text may have: they are handed in as fractions.
func TestNearestAtTheEnds(t *testing.T) {
	for _, c := range []struct {
		what string
		x    *big.Rat
		want float64
	}{
		{"2^1024 - 2^970", new(big.Rat).Sub(twos(1024), twos(970)), math.Inf(1)},
		{"1 below 2^1024 - 2^970", new(big.Rat).Sub(new(big.Rat).Sub(twos(1024), twos(970)), big.NewRat(1, 1)), math.MaxFloat64},
		{"1 above 2^1024 - 2^970", new(big.Rat).Add(new(big.Rat).Sub(twos(1024), twos(970)), big.NewRat(1, 1)), math.Inf(1)},
		{"2^1024 - 2^971", new(big.Rat).Sub(twos(1024), twos(971)), math.MaxFloat64},
		{"2^1024", twos(1024), math.Inf(1)},
		{"half the least", twos(-1075), 0},
		{"just below half the least", new(big.Rat).Sub(twos(-1075), twos(-1200)), 0},
		{"just above half the least", new(big.Rat).Add(twos(-1075), twos(-1200)), least},
		{"the least", twos(-1074), least},
		{"the least and a half", new(big.Rat).Mul(big.NewRat(3, 1), twos(-1075)), 2 * least},
		{"halfway from the greatest subnormal to the least normal", new(big.Rat).Sub(twos(-1022), twos(-1075)), leastNormal},
		{"halfway beyond the least normal", new(big.Rat).Add(twos(-1022), twos(-1075)), leastNormal},
		{"halfway ahead of 2^-1021", new(big.Rat).Sub(twos(-1021), twos(-1075)), 0x1p-1021},
	} {
		if x := nearest(c.x.Num().Bytes(), c.x.Denom().Bytes()); !sameBits(x, c.want) {
			t.Errorf("P9.1: the double nearest to %s: %v, not %v", c.what, x, c.want)
		}
	}
}

func TestParseHalfway(t *testing.T) {
	for s, want := range map[string]float64{
		"9007199254740993": 0x1p53, "9007199254740995": 0x1p53 + 4, "-9007199254740993": -0x1p53, "9007199254740992.9": 0x1p53, "9007199254740993.1": 0x1p53 + 2, "9007199254740993.000000000000000000000000000000000000000001": 0x1p53 + 2, "9007199254740994.99999999999999999999999999999999": 0x1p53 + 2, "9007199254740991.5": 0x1p53, "9007199254740990.5": 0x1p53 - 2, "18014398509481990": 18014398509481992, "18014398509481986": 18014398509481984,
		"1.00000000000000011102230246251565404236316680908203125": 1, "1.00000000000000011102230246251565404236316680908203124": 1, "1.00000000000000011102230246251565404236316680908203126": 1 + 0x1p-52, "1.000000000000000333066907387546962127089500427246093750": 1 + 0x1p-51,
		"0.999999999999999944488848768742172978818416595458984375": 1, "0.999999999999999944488848768742172978818416595458984374": 1 - 0x1p-53,
		"4503599627370496.5": 0x1p52, "4503599627370497.5": 0x1p52 + 2, "450359962737049.65e1": 0x1p52, "45035996273704975e-1": 0x1p52 + 2,
	} {
		parses(t, s, want)
	}
}

// halfway is the number between a double and the next one.
func halfway(x float64) *big.Rat {
	sum := new(big.Rat).Add(new(big.Rat).SetFloat64(x), new(big.Rat).SetFloat64(math.Nextafter(x, math.Inf(1))))
	return sum.Quo(sum, big.NewRat(2, 1))
}

func TestNearestHalfway(t *testing.T) {
	for _, x := range append(someDoubles(1, 2000), edges()...) {
		x = math.Abs(x)
		if !(0 < x && x < math.MaxFloat64) {
			continue
		}
		next := math.Nextafter(x, math.Inf(1))
		middle := halfway(x)
		want := x
		if math.Float64bits(x)&1 == 1 {
			want = next
		}
		tiny := twos(-1200)
		below, above := new(big.Rat).Sub(middle, tiny), new(big.Rat).Add(middle, tiny)
		for _, c := range []struct {
			at   *big.Rat
			want float64
		}{{middle, want}, {below, x}, {above, next}} {
			if y := nearest(c.at.Num().Bytes(), c.at.Denom().Bytes()); y != c.want {
				t.Fatalf("P9.1: nearest to %v: %v, not %v", c.at, y, c.want)
			}
		}
	}
}

func TestParseOfAllShortTexts(t *testing.T) {
	signs := []string{"0", "7", ".", "e", "E", "+", "-", " "}
	var grow func(s string, more int)
	grow = func(s string, more int) {
		x, err := Parse(s)
		if want, ok := plainParse(strings.Trim(s, " ")); ok != (err == api.OK) || !ok && err != api.ErrForm || !sameBits(x, want) {
			t.Fatalf("P9.1: Parse(%q): %v, %d, not %v, %v", s, x, err, want, ok)
		}
		for _, c := range signs {
			if more > 0 {
				grow(s+c, more-1)
			}
		}
	}
	grow("", 5)
}

func TestParseOfTurnedTexts(t *testing.T) {
	for _, s := range []string{"INF", "-INF", "NaN", "-12.5e-7", "+.5E+3"} {
		for i := range len(s) + 1 {
			for c := range 256 {
				for _, turned := range []string{s[:i] + string([]byte{byte(c)}) + s[i:], s[:i] + string([]byte{byte(c)}) + s[min(i+1, len(s)):]} {
					want, ok := plainParse(strings.Trim(turned, " \t\r\n"))
					if x, err := Parse(turned); ok != (err == api.OK) || !ok && err != api.ErrForm || !sameBits(x, want) {
						t.Fatalf("P9.1: Parse(%q): %v, %d, not %v, %v", turned, x, err, want, ok)
					}
				}
			}
		}
	}
}

// someText is any text of a double, of up to 200 bytes.
func someText(r *rand.Rand) string {
	digits := func(many int) string {
		b := make([]byte, many)
		for i := range b {
			b[i] = '0' + byte(r.Intn(10))
		}
		return string(b)
	}
	sign := func() string { return []string{"", "+", "-"}[r.Intn(3)] }
	size := 1 + r.Intn([]int{5, 20, 190}[r.Intn(3)])
	at := r.Intn(size + 1)
	number := digits(size)
	s := sign() + number[:at] + []string{"", "."}[r.Intn(2)] + number[at:]
	if r.Intn(4) > 0 {
		s += []string{"e", "E"}[r.Intn(2)] + sign() + digits(1+r.Intn(3))
	}
	return s
}

func TestParseOfManyTexts(t *testing.T) {
	r := rand.New(rand.NewSource(2))
	for range 20000 {
		s := someText(r)
		want, ok := plainParse(s)
		if x, err := Parse(s); !ok || err != api.OK || !sameBits(x, want) {
			t.Fatalf("P9.1: Parse(%q): %v, %d, not %v, %v", s, x, err, want, ok)
		}
	}
}

func TestParseOfAnyBytes(t *testing.T) {
	r := rand.New(rand.NewSource(3))
	for range 20000 {
		b := make([]byte, r.Intn(210))
		r.Read(b)
		want := api.ErrForm
		if len(b) > 200 {
			want = api.ErrLong
		} else if _, ok := plainParse(strings.Trim(string(b), " \t\r\n")); ok {
			want = api.OK
		}
		if _, err := Parse(string(b)); err != want {
			t.Fatalf("P9.1: Parse(%q): %d, not %d", b, err, want)
		}
	}
}
