package moment

import (
	"math/rand"
	"regexp"
	"strconv"
	"strings"
	"testing"
	"time"

	"lanyard/api"
)

// form is that of a text, its blanks cut off: what the chapter asks of its numbers is asked by plain.
var form = regexp.MustCompile(`^[ \t\r\n]*([0-9]{4})-([0-9]{2})-([0-9]{2})T([0-9]{2}):([0-9]{2}):([0-9]{2})(\.[0-9]{1,9})?(?:Z|([+-])([0-9]{2}):([0-9]{2}))[ \t\r\n]*$`)

// plain is what Parse must answer, by Go's library.
func plain(s string) (int, api.Errno) {
	if len(s) > 64 {
		return 0, api.ErrLong
	}
	m := form.FindStringSubmatch(s)
	if m == nil {
		return 0, api.ErrForm
	}
	n := make([]int, len(m))
	for i, x := range m {
		n[i], _ = strconv.Atoi(x)
	}
	fraction := (strings.TrimPrefix(m[7], ".") + "000000000")[:9]
	nanos, _ := strconv.Atoi(fraction)
	if _, err := time.Parse("2006-01-02", m[1]+"-"+m[2]+"-"+m[3]); err != nil || n[1] == 0 {
		return 0, api.ErrForm
	}
	if n[4] > 24 || n[4] == 24 && (n[5] > 0 || n[6] > 0 || nanos > 0) || n[5] > 59 || n[6] > 59 || n[10] > 59 || 100*n[9]+n[10] > 1400 {
		return 0, api.ErrForm
	}
	at := time.Date(n[1], time.Month(n[2]), n[3], n[4], n[5], n[6], nanos/1000000*1000000, time.UTC)
	offset := time.Duration(n[9])*time.Hour + time.Duration(n[10])*time.Minute
	if m[8] == "-" {
		offset = -offset
	}
	at = at.Add(-offset)
	if at.Year() < 1 || at.Year() > 9999 {
		return 0, api.ErrSize
	}
	return int(at.UnixMilli()), api.OK
}

// plainText is what Print must answer of a moment, by Go's library.
func plainText(ms int) string {
	at := time.UnixMilli(int64(ms)).UTC()
	if ms%1000 == 0 {
		return at.Format("2006-01-02T15:04:05Z")
	}
	return at.Format("2006-01-02T15:04:05.000Z")
}

// anyMoment is one of all moments.
func anyMoment(r *rand.Rand) int {
	ms := firstMoment + int(r.Int63n(lastMoment-firstMoment+1))
	if r.Intn(3) == 0 {
		ms -= ms % 1000
	}
	return ms
}

func TestEachDay(t *testing.T) {
	year, month, d := 1, 1, 1
	lengths := func() []int {
		if year%400 == 0 || year%4 == 0 && year%100 != 0 {
			return []int{31, 29, 31, 30, 31, 30, 31, 31, 30, 31, 30, 31}
		}
		return []int{31, 28, 31, 30, 31, 30, 31, 31, 30, 31, 30, 31}
	}
	ends := lengths()
	for n := firstMoment / day; n <= lastMoment/day; n++ {
		if days, err := Days(year, month, d); days != n || err != api.OK {
			t.Fatalf("P10.4: Days(%d, %d, %d): %d, %d, not %d", year, month, d, days, err, n)
		}
		// Of a day's two ends one is enough, the one and the other by turns.
		ms := n*day + (n&1)*(day-1)
		if date, err := Date(ms); date != [3]int{year, month, d} || err != api.OK {
			t.Fatalf("P10.4: Date(%d): %v, %d, not %d-%d-%d", ms, date, err, year, month, d)
		}
		d++
		if d > ends[month-1] {
			if days, err := Days(year, month, d); days != 0 || err != api.ErrArg {
				t.Fatalf("P10.2: Days(%d, %d, %d): %d, %d", year, month, d, days, err)
			}
			month, d = month+1, 1
		}
		if month > 12 {
			year, month = year+1, 1
			ends = lengths()
		}
	}
	if year != 10000 || month != 1 || d != 1 {
		t.Errorf("P10.4: the last day's next one is %d-%d-%d", year, month, d)
	}
}

func TestPrintIsParsed(t *testing.T) {
	check := func(ms int) {
		s, err := Print(ms)
		if s != plainText(ms) || err != api.OK {
			t.Fatalf("P10.1: Print(%d): %q, %d, not %q", ms, s, err, plainText(ms))
		}
		if back, err := Parse(s); back != ms || err != api.OK {
			t.Fatalf("P10.4: Parse(%q): %d, %d, not %d", s, back, err, ms)
		}
	}
	r := rand.New(rand.NewSource(1))
	for range 200000 {
		check(anyMoment(r))
	}
	// Each year's ends.
	for year := 1; year <= 9999; year++ {
		ms := int(time.Date(year, 1, 1, 0, 0, 0, 0, time.UTC).UnixMilli())
		check(ms)
		if year > 1 {
			check(ms - 1)
		}
	}
	// Each second of a day, and each millisecond of a second.
	for i := range day / 1000 {
		check(-day + i*1000)
	}
	for i := range 1000 {
		check(-3000 + i)
	}
}

func TestLaterIsGreater(t *testing.T) {
	r := rand.New(rand.NewSource(2))
	for i := range 200000 {
		a, b := anyMoment(r), anyMoment(r)
		if i%2 == 0 {
			b = min(a+1+r.Intn(1<<(1+i%40)), lastMoment)
		}
		if a > b {
			a, b = b, a
		}
		one, _ := Print(a)
		other, _ := Print(b)
		if len(one) == len(other) && (one < other) != (a < b) {
			t.Fatalf("P10.4: %d is %q, and %d is %q", a, one, b, other)
		}
		if len(one) != len(other) && (a%1000 == 0) == (b%1000 == 0) {
			t.Fatalf("P10.4: %q and %q are of different lengths", one, other)
		}
	}
}

// anyText is nearly a moment's text: its numbers often lie at an edge, and now and then a byte is another one.
func anyText(r *rand.Rand) string {
	one := func(of ...string) string { return of[r.Intn(len(of))] }
	date := one("0001-01-01", "9999-12-31")
	if r.Intn(2) == 0 {
		year := one("0000", "0001", "0004", "0100", "0400", "1900", "1970", "2000", "2026", "9999")
		date = year + "-" + one("00", "01", "02", "03", "04", "11", "12", "13") + "-" + one("00", "01", "28", "29", "30", "31", "32")
	}
	s := one("", "", "", " ", "\n\t") + date +
		"T" + one("00", "09", "13", "14", "23", "24", "24", "25") +
		":" + one("00", "00", "00", "01", "59", "60") +
		":" + one("00", "00", "00", "59", "60") +
		one("", "", ".0", ".5", ".999", ".0009", ".000000000", ".000000001", ".9999999999", ".") +
		one("Z", "Z", "+00:00", "-00:00", "+00:01", "-00:01", "+13:59", "-14:00", "+14:00", "-14:01", "+23:00", "") + one("", "", "", " ")
	if r.Intn(4) == 0 {
		b := []byte(s)
		at := r.Intn(len(b))
		b[at] = one("0", "9", "-", ":", ".", "T", "Z", "+", " ", "x", "\xFF", "\x00")[0]
		s = string(b)
	}
	if r.Intn(8) == 0 {
		at := r.Intn(len(s))
		s = s[:at] + one("", "0", ":", " ") + s[at+r.Intn(2):]
	}
	return s
}

func TestParseOfNearlyAll(t *testing.T) {
	r := rand.New(rand.NewSource(3))
	seen := map[api.Errno]int{}
	for range 400000 {
		s := anyText(r)
		ms, err := Parse(s)
		want, wantErr := plain(s)
		if ms != want || err != wantErr {
			t.Fatalf("P10.1: Parse(%q): %d, %d, not %d, %d", s, ms, err, want, wantErr)
		}
		seen[err]++
	}
	for _, err := range []api.Errno{api.OK, api.ErrForm, api.ErrSize} {
		if seen[err] < 1000 {
			t.Errorf("only %d texts with %d", seen[err], err)
		}
	}
}

func TestParseOfAnyBytes(t *testing.T) {
	r := rand.New(rand.NewSource(4))
	for range 100000 {
		b := make([]byte, r.Intn(70))
		r.Read(b)
		s := string(b)
		ms, err := Parse(s)
		if want, wantErr := plain(s); ms != want || err != wantErr {
			t.Fatalf("P10.1: Parse(%q): %d, %d, not %d, %d", s, ms, err, want, wantErr)
		}
	}
	// Each text with one of its bytes left out, doubled, or another one.
	for _, c := range append(parsed, printed...) {
		for i := range len(c.text) {
			for x := range 256 {
				for _, s := range []string{c.text[:i] + c.text[i+1:], c.text[:i] + c.text[i:i+1] + c.text[i:], c.text[:i] + string([]byte{byte(x)}) + c.text[i+1:]} {
					if x > 0 && len(s) != len(c.text) {
						continue
					}
					ms, err := Parse(s)
					if want, wantErr := plain(s); ms != want || err != wantErr {
						t.Fatalf("P10.1: Parse(%q): %d, %d, not %d, %d", s, ms, err, want, wantErr)
					}
				}
			}
		}
	}
}
