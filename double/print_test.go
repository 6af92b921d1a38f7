package double

import (
	"math"
	"strconv"
	"strings"
	"testing"

	"lanyard/api"
)

func TestPrint(t *testing.T) {
	for _, c := range []struct {
		x    float64
		want string
	}{
		{0, "0.0E0"}, {minusNought, "-0.0E0"}, {math.Inf(1), "INF"}, {math.Inf(-1), "-INF"},
		{1, "1.0E0"}, {-1, "-1.0E0"}, {100, "1.0E2"}, {0.1, "1.0E-1"}, {-1.25, "-1.25E0"}, {123456, "1.23456E5"}, {10, "1.0E1"}, {9, "9.0E0"}, {0.001, "1.0E-3"}, {-0.00012, "-1.2E-4"}, {120, "1.2E2"}, {1002, "1.002E3"}, {1e100, "1.0E100"}, {1e-100, "1.0E-100"},
		{0.2, "2.0E-1"}, {0.3, "3.0E-1"}, {0.1 + 0.2*1.0000000000000002, "3.0000000000000004E-1"}, {1.0 / 3, "3.333333333333333E-1"}, {2.0 / 3, "6.666666666666666E-1"}, {math.Pi, "3.141592653589793E0"},
		{least, "5.0E-324"}, {-least, "-5.0E-324"}, {2 * least, "1.0E-323"}, {3 * least, "1.5E-323"}, {mostSubnormal, "2.225073858507201E-308"}, {leastNormal, "2.2250738585072014E-308"}, {math.Nextafter(leastNormal, 1), "2.225073858507202E-308"}, {math.MaxFloat64, "1.7976931348623157E308"}, {-math.MaxFloat64, "-1.7976931348623157E308"}, {math.Nextafter(math.MaxFloat64, 0), "1.7976931348623155E308"},
		{1e15, "1.0E15"}, {1e21, "1.0E21"}, {1e22, "1.0E22"}, {1e23, "1.0E23"}, {math.Nextafter(1e23, math.Inf(1)), "1.0000000000000001E23"}, {9007199254740992, "9.007199254740992E15"}, {9007199254740993 + 1, "9.007199254740994E15"}, {5e-5, "5.0E-5"}, {1 - 0x1p-53, "9.999999999999999E-1"}, {1 + 0x1p-52, "1.0000000000000002E0"},
		// Below a power of two the doubles lie half as far apart: the nearest digits may be another one's.
		{0x1p-44, "5.684341886080802E-14"}, {0x1p-24, "5.960464477539063E-8"}, {0x1p-1021, "4.450147717014403E-308"}, {0x1p-1022, "2.2250738585072014E-308"}, {0x1p1023, "8.98846567431158E307"},
	} {
		if s := Print(c.x); s != c.want {
			t.Errorf("P9.1: Print(%v): %s, not %s", c.x, s, c.want)
		}
	}
	for _, x := range nans() {
		if s := Print(x); s != "NaN" {
			t.Errorf("P9.1: Print of NaN %X: %s", math.Float64bits(x), s)
		}
	}
}

// Of as few digits, both 2 and 3 (7 and 8) are as near at the last place: the even one is told.
func TestPrintOfTies(t *testing.T) {
	for _, c := range []struct {
		x    float64
		want string
	}{
		{0x1p50 + 0.25, "1.1258999068426242E15"}, {0x1p50 + 0.75, "1.1258999068426248E15"}, {0x1p50 + 1.25, "1.1258999068426252E15"}, {-0x1p50 - 0.75, "-1.1258999068426248E15"}, {0x1p51 - 0.25, "2.2517998136852478E15"},
		{0x1p49 + 0.25, "5.629499534213122E14"}, {0x1p49 + 0.75, "5.629499534213128E14"},
	} {
		if s := Print(c.x); s != c.want || s != plainPrint(c.x) {
			t.Errorf("P9.1: Print(%v): %s, not %s", c.x, s, c.want)
		}
	}
	ties := 0
	for places := 1; places <= 20; places++ {
		for odd := uint64(1); odd < 1<<53; odd = 3*odd + 2 {
			// Each is halfway between two numbers of so many places behind the point.
			x := math.Ldexp(float64(odd), -places-1)
			if s := Print(x); s != plainPrint(x) {
				t.Fatalf("P9.1: Print(%v): %s, not %s", x, s, plainPrint(x))
			}
			ties++
		}
	}
	if ties < 300 {
		t.Fatalf("only %d doubles", ties)
	}
}

// libraryText is the library's shortest text, laid out as a canonical one.
func libraryText(x float64) string {
	digits, power, _ := strings.Cut(strconv.FormatFloat(x, 'e', -1, 64), "e")
	if !strings.Contains(digits, ".") {
		digits += ".0"
	}
	n, _ := strconv.Atoi(power)
	return digits + "E" + strconv.Itoa(n)
}

func TestPrintAtEdges(t *testing.T) {
	for _, x := range edges() {
		if s := Print(x); s != plainPrint(x) {
			t.Fatalf("P9.1: Print(%v): %s, not %s", x, s, plainPrint(x))
		}
	}
}

func TestPrintOfManyDoubles(t *testing.T) {
	for i, x := range someDoubles(4, 8000) {
		if math.IsNaN(x) || math.IsInf(x, 0) || x == 0 {
			continue
		}
		want := libraryText(x)
		if i%8 == 0 {
			want = plainPrint(x)
		}
		if s := Print(x); s != want {
			t.Fatalf("P9.1: Print(%v): %s, not %s", x, s, want)
		}
	}
	for n := 1; n < 5000; n++ {
		x := float64(n)
		if s := Print(x); s != libraryText(x) {
			t.Fatalf("P9.1: Print(%v): %s, not %s", x, s, libraryText(x))
		}
	}
}

func TestParseOfPrint(t *testing.T) {
	for _, x := range append(someDoubles(5, 5000), edges()...) {
		s := Print(x)
		if y, err := Parse(s); err != api.OK || !sameBits(x, y) {
			t.Fatalf("P9.4: Print(%v) is %s, Parse of it %v, %d", x, s, y, err)
		}
	}
}

func TestTextsOfUnlikeDoubles(t *testing.T) {
	of := map[string]float64{}
	for _, x := range append(someDoubles(6, 2000), 0, minusNought, least, -least, leastNormal, 1, -1, 10, 0x1p53, 1e23, math.MaxFloat64, math.Inf(1), math.Inf(-1), math.NaN()) {
		for _, y := range []float64{x, math.Nextafter(x, math.Inf(1)), math.Nextafter(x, math.Inf(-1)), -x} {
			s := Print(y)
			if z, ok := of[s]; ok && !sameBits(y, z) {
				t.Fatalf("P9.4: %v and %v are both told as %s", y, z, s)
			}
			of[s] = y
		}
	}
	if len(of) < 6000 {
		t.Fatalf("P9.4: only %d texts", len(of))
	}
}
