package moment

import (
	"math"
	"testing"

	"lanyard/api"
)

const (
	day = 86400000

	// As layer 10's chapter and its shared tests have them.
	firstMoment = -62135596800000
	lastMoment  = 253402300799999
)

// noMoments are milliseconds just beyond the moments, and far beyond them.
var noMoments = []int{firstMoment - 1, lastMoment + 1, firstMoment - day, lastMoment + day, -1 << 62, 1 << 62, math.MinInt, math.MinInt + 1, math.MaxInt, math.MaxInt - 1}

// same is a text and its moment.
type same struct {
	text string
	ms   int
}

// printed are moments with the texts that Print gives them.
var printed = []same{
	{"1970-01-01T00:00:00Z", 0},
	{"1970-01-01T00:00:00.001Z", 1},
	{"1969-12-31T23:59:59.999Z", -1},
	{"1969-12-31T23:59:59Z", -1000},
	{"1969-12-31T23:59:58.999Z", -1001},
	{"1970-01-01T00:00:00.010Z", 10},
	{"1970-01-01T00:00:00.100Z", 100},
	{"1970-01-01T00:00:00.120Z", 120},
	{"1970-01-01T00:00:00.999Z", 999},
	{"1970-01-01T00:00:01Z", 1000},
	{"1970-01-01T00:00:59.999Z", 59999},
	{"1970-01-01T00:01:00Z", 60000},
	{"1970-01-01T00:59:59.999Z", 3599999},
	{"1970-01-01T01:00:00Z", 3600000},
	{"1970-01-01T09:08:07.006Z", 32887006},
	{"1970-01-01T23:59:59.999Z", day - 1},
	{"1970-01-02T00:00:00Z", day},
	{"1969-12-31T00:00:00Z", -day},
	{"1969-12-30T23:59:59.999Z", -day - 1},
	{"2000-02-29T12:00:00.500Z", 951825600500},
	{"2026-11-15T23:00:00Z", 1794783600000},
	{"0001-01-01T00:00:00Z", firstMoment},
	{"0001-01-01T00:00:00.001Z", firstMoment + 1},
	{"0001-01-02T00:00:00Z", firstMoment + day},
	{"0999-12-31T23:59:59.999Z", -30610224000001},
	{"1000-01-01T00:00:00Z", -30610224000000},
	{"9999-12-31T00:00:00Z", lastMoment - day + 1},
	{"9999-12-31T23:59:59Z", lastMoment - 999},
	{"9999-12-31T23:59:59.999Z", lastMoment},
}

func TestPrint(t *testing.T) {
	for _, c := range printed {
		if s, err := Print(c.ms); s != c.text || err != api.OK {
			t.Errorf("P10.1: Print(%d): %q, %d, not %q", c.ms, s, err, c.text)
		}
	}
	for _, ms := range noMoments {
		if s, err := Print(ms); s != "" || err != api.ErrSize {
			t.Errorf("P10.1: Print(%d): %q, %d", ms, s, err)
		}
	}
}

func TestDate(t *testing.T) {
	for _, c := range []struct {
		ms   int
		want [3]int
	}{
		{0, [3]int{1970, 1, 1}}, {-1, [3]int{1969, 12, 31}}, {day - 1, [3]int{1970, 1, 1}}, {day, [3]int{1970, 1, 2}}, {-day, [3]int{1969, 12, 31}}, {-day - 1, [3]int{1969, 12, 30}},
		{firstMoment, [3]int{1, 1, 1}}, {firstMoment + day - 1, [3]int{1, 1, 1}}, {firstMoment + day, [3]int{1, 1, 2}}, {lastMoment, [3]int{9999, 12, 31}}, {lastMoment - day, [3]int{9999, 12, 30}},
		{951825600500, [3]int{2000, 2, 29}}, {951782400000, [3]int{2000, 2, 29}}, {951782399999, [3]int{2000, 2, 28}}, {951868800000, [3]int{2000, 3, 1}},
		{-2203891200001, [3]int{1900, 2, 28}}, {-2203891200000, [3]int{1900, 3, 1}},
	} {
		if d, err := Date(c.ms); d != c.want || err != api.OK {
			t.Errorf("P10.2: Date(%d): %v, %d, not %v", c.ms, d, err, c.want)
		}
	}
	for _, ms := range noMoments {
		if d, err := Date(ms); d != [3]int{} || err != api.ErrSize {
			t.Errorf("P10.2: Date(%d): %v, %d", ms, d, err)
		}
	}
}

func TestDays(t *testing.T) {
	for _, c := range []struct{ year, month, day, want int }{
		{1970, 1, 1, 0}, {1970, 1, 2, 1}, {1969, 12, 31, -1}, {1970, 12, 31, 364}, {1971, 1, 1, 365}, {1972, 2, 29, 789}, {1972, 3, 1, 790},
		{2000, 2, 28, 11015}, {2000, 2, 29, 11016}, {2000, 3, 1, 11017}, {1900, 2, 28, -25509}, {1900, 3, 1, -25508},
		{1, 1, 1, -719162}, {1, 12, 31, -718798}, {9999, 12, 31, 2932896}, {9999, 1, 1, 2932532},
	} {
		if n, err := Days(c.year, c.month, c.day); n != c.want || err != api.OK {
			t.Errorf("P10.2: Days(%d, %d, %d): %d, %d, not %d", c.year, c.month, c.day, n, err, c.want)
		}
	}
	for _, c := range [][3]int{
		{0, 1, 1}, {-1, 1, 1}, {10000, 1, 1}, {0, 12, 31}, {-4, 2, 29}, {10000, 2, 29},
		{1970, 0, 1}, {1970, 13, 1}, {1970, -1, 1}, {1970, 1, 0}, {1970, 1, -1}, {1970, 1, 32}, {1970, 12, 0}, {1970, 12, 32},
		{1970, 2, 29}, {1900, 2, 29}, {2100, 2, 29}, {2000, 2, 30}, {1972, 2, 30}, {1970, 4, 31}, {1970, 6, 31}, {1970, 9, 31}, {1970, 11, 31},
		{math.MaxInt, 1, 1}, {math.MinInt, 1, 1}, {1970, math.MaxInt, 1}, {1970, math.MinInt, 1}, {1970, 1, math.MaxInt}, {1970, 1, math.MinInt}, {math.MaxInt, math.MaxInt, math.MaxInt}, {math.MinInt, math.MinInt, math.MinInt}, {0, 0, 0},
	} {
		if n, err := Days(c[0], c[1], c[2]); n != 0 || err != api.ErrArg {
			t.Errorf("P10.2: Days(%v): %d, %d", c, n, err)
		}
	}
}

func TestAdd(t *testing.T) {
	for _, c := range []struct{ ms, more, want int }{
		{0, 0, 0}, {5, -6, -1}, {5, 6, 11}, {-5, 6, 1}, {0, day, day}, {0, -day, -day},
		{firstMoment, 0, firstMoment}, {lastMoment, 0, lastMoment}, {firstMoment, lastMoment - firstMoment, lastMoment}, {lastMoment, firstMoment - lastMoment, firstMoment},
		{0, firstMoment, firstMoment}, {0, lastMoment, lastMoment}, {-1, firstMoment + 1, firstMoment}, {1, lastMoment - 1, lastMoment},
	} {
		if n, err := Add(c.ms, c.more); n != c.want || err != api.OK {
			t.Errorf("P10.2: Add(%d, %d): %d, %d, not %d", c.ms, c.more, n, err, c.want)
		}
	}
	for _, c := range [][2]int{
		{firstMoment, -1}, {lastMoment, 1}, {0, firstMoment - 1}, {0, lastMoment + 1}, {1, lastMoment}, {-1, firstMoment}, {firstMoment, lastMoment - firstMoment + 1}, {lastMoment, firstMoment - lastMoment - 1},
		{firstMoment - 1, 1}, {lastMoment + 1, -1}, {firstMoment - 1, 0}, {lastMoment + 1, 0}, {math.MaxInt, -math.MaxInt}, {math.MinInt, math.MaxInt}, {math.MaxInt, math.MaxInt}, {math.MinInt, math.MinInt}, {math.MinInt, 0}, {math.MaxInt, math.MinInt},
		{0, math.MaxInt}, {0, math.MinInt}, {firstMoment, math.MinInt}, {firstMoment, math.MaxInt}, {lastMoment, math.MaxInt}, {lastMoment, math.MinInt}, {-1, math.MinInt}, {1, math.MaxInt}, {5, 1 << 62}, {-5, -1 << 62},
	} {
		if n, err := Add(c[0], c[1]); n != 0 || err != api.ErrSize {
			t.Errorf("P10.2: Add(%d, %d): %d, %d", c[0], c[1], n, err)
		}
	}
}

func TestWithin(t *testing.T) {
	for _, c := range []struct {
		at, from, until, skew int
		want                  bool
	}{
		{10, 10, 11, 0, true}, {9, 10, 11, 0, false}, {11, 10, 11, 0, false}, {10, 10, 10, 0, false}, {10, 11, 10, 0, false}, {10, 0, 20, 0, true},
		{-10, -10, -9, 0, true}, {-9, -10, -9, 0, false}, {0, -1, 1, 0, true},
		{9, 11, 20, 1, false}, {10, 11, 20, 1, true}, {20, 11, 20, 1, true}, {21, 11, 20, 1, false}, {19, 11, 20, 1, true},
		// Where from isn't ahead of until, the skew may make room between them.
		{10, 10, 10, 1, true}, {9, 10, 10, 1, true}, {11, 10, 10, 1, false}, {8, 10, 10, 1, false}, {11, 12, 11, 1, true}, {11, 12, 10, 1, false}, {11, 12, 10, 2, true}, {11, 14, 10, 2, false},
		{0, day, day + 1, day, true}, {-1, day, day + 1, day, false}, {day - 1, -1, 0, day, true}, {day, -1, 0, day, false}, {5, 5, 6, day, true},
		// A skew beyond a day, or below 0.
		{5, 0, 9, day + 1, false}, {5, 0, 9, -1, false}, {5, 0, 9, math.MaxInt, false}, {5, 0, 9, math.MinInt, false}, {5, 0, 9, lastMoment, false},
		// The spans' ends may lie beyond the moments with the skew.
		{firstMoment, firstMoment, lastMoment, day, true}, {lastMoment, firstMoment, lastMoment, day, true}, {lastMoment, firstMoment, lastMoment, 1, true}, {lastMoment, firstMoment, lastMoment, 0, false}, {firstMoment, firstMoment, lastMoment, 0, true}, {lastMoment, lastMoment, lastMoment, 1, true}, {firstMoment, firstMoment + 1, firstMoment, 1, true},
	} {
		if Within(c.at, c.from, c.until, c.skew) != c.want {
			t.Errorf("P10.3: Within(%d, %d, %d, %d): not %v", c.at, c.from, c.until, c.skew, c.want)
		}
	}
}

func TestWithinOfNoMoments(t *testing.T) {
	for _, ms := range noMoments {
		for _, skew := range []int{0, 1, day} {
			if Within(ms, firstMoment, lastMoment, skew) {
				t.Errorf("P10.3: at %d, skew %d", ms, skew)
			}
			if Within(0, ms, lastMoment, skew) || Within(firstMoment, ms, lastMoment, skew) {
				t.Errorf("P10.3: from %d, skew %d", ms, skew)
			}
			if Within(0, firstMoment, ms, skew) || Within(lastMoment, firstMoment, ms, skew) {
				t.Errorf("P10.3: until %d, skew %d", ms, skew)
			}
			if Within(ms, ms, ms, skew) {
				t.Errorf("P10.3: all of them %d, skew %d", ms, skew)
			}
		}
	}
}
