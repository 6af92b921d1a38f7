package escape

import (
	"fmt"
	"math/rand"
	"slices"
	"strings"
	"testing"
	"unsafe"

	"lanyard/api"
)

const plainBytes = "ABCDEFGHIJKLMNOPQRSTUVWXYZabcdefghijklmnopqrstuvwxyz0123456789-._~"

func checkUnpercent(t *testing.T, s string, plus bool, want string, wantErr api.Errno) {
	t.Helper()
	x, e := Unpercent(s, plus)
	if x != want || e != wantErr {
		t.Fatalf("P3.1: Unpercent(%q, %v): %q, %d, not %q, %d", s, plus, x, e, want, wantErr)
	}
}

func checkParse(t *testing.T, s string, want []api.Pair, wantErr api.Errno) {
	t.Helper()
	ps, e := ParseQuery(s)
	if e != wantErr || !slices.Equal(ps, want) {
		t.Fatalf("P3.2: ParseQuery(%q): %q, %d, not %q, %d", s, ps, e, want, wantErr)
	}
}

// shortTexts hands each text of up to n of the bytes to try.
func shortTexts(n int, from string, try func(s string)) {
	var grow func(s string)
	grow = func(s string) {
		try(s)
		if len(s) < n {
			for i := range len(from) {
				grow(s + from[i:i+1])
			}
		}
	}
	grow("")
}

// manyTexts hands each text of up to two bytes to try, and some longer ones.
func manyTexts(try func(s string)) {
	try("")
	for x := range 1 << 8 {
		try(string([]byte{byte(x)}))
	}
	for x := range 1 << 16 {
		try(string([]byte{byte(x >> 8), byte(x)}))
	}
	r := rand.New(rand.NewSource(3))
	for n := range 300 {
		b := make([]byte, 3+n)
		r.Read(b)
		try(string(b))
	}
}

// plainPercent is percent coding by the plain words of the chapter.
func plainPercent(s string) string {
	out := ""
	for _, c := range []byte(s) {
		if strings.Contains(plainBytes, string(rune(c))) {
			out += string(rune(c))
		} else {
			out += fmt.Sprintf("%%%02X", c)
		}
	}
	return out
}

func TestPercentExamples(t *testing.T) {
	for s, want := range map[string]string{
		"":               "",
		"a b/é":          "a%20b%2F%C3%A9",
		plainBytes:       plainBytes,
		"%":              "%25",
		"%41":            "%2541",
		"+":              "%2B",
		"=&":             "%3D%26",
		"*'()!":          "%2A%27%28%29%21",
		"\x00\n\x7F":     "%00%0A%7F",
		"\xFF\xC0":       "%FF%C0",
		"\uFFFD":         "%EF%BF%BD",
		"@[`{/:^":        "%40%5B%60%7B%2F%3A%5E",
		"https://a.b/?c": "https%3A%2F%2Fa.b%2F%3Fc",
	} {
		if x := Percent(s); x != want {
			t.Errorf("P3.1: Percent(%q): %q, not %q", s, x, want)
		}
	}
}

func TestPercentOfManyTexts(t *testing.T) {
	manyTexts(func(s string) {
		x := Percent(s)
		if want := plainPercent(s); x != want {
			t.Fatalf("P3.1: Percent(%q): %q, not %q", s, x, want)
		}
		for _, plus := range []bool{false, true} {
			if y, e := Unpercent(x, plus); y != s || e != api.OK {
				t.Fatalf("P3.4: Unpercent(Percent(%q), %v): %q, %d", s, plus, y, e)
			}
		}
	})
}

// Each byte in percent coding, its digits in great and in small letters, alone and amid others.
func TestUnpercentOfEachCode(t *testing.T) {
	for x := range 1 << 8 {
		c := string([]byte{byte(x)})
		great, small := fmt.Sprintf("%02X", x), fmt.Sprintf("%02x", x)
		for _, code := range []string{great, small, great[:1] + small[1:], small[:1] + great[1:]} {
			for _, plus := range []bool{false, true} {
				checkUnpercent(t, "%"+code, plus, c, api.OK)
				checkUnpercent(t, "a%"+code+"b", plus, "a"+c+"b", api.OK)
				checkUnpercent(t, "%"+code+"41", plus, c+"41", api.OK)
				checkUnpercent(t, "%"+code+"%"+code, plus, c+c, api.OK)
			}
		}
	}
}

// Each byte out of percent coding stands for itself, but a % and, with plus, a +.
func TestUnpercentOfEachByte(t *testing.T) {
	for x := range 1 << 8 {
		c := string([]byte{byte(x)})
		if c == "%" {
			continue
		}
		checkUnpercent(t, c, false, c, api.OK)
		checkUnpercent(t, "a"+c+c+"%41"+c, false, "a"+c+c+"A"+c, api.OK)
		if c == "+" {
			c = " "
		}
		checkUnpercent(t, string([]byte{byte(x)}), true, c, api.OK)
		checkUnpercent(t, fmt.Sprintf("a%[1]s%[1]s%%41%[1]s", string([]byte{byte(x)})), true, "a"+c+c+"A"+c, api.OK)
	}
}

func TestUnpercentPlus(t *testing.T) {
	for _, x := range []struct{ s, with, without string }{
		{"", "", ""},
		{"+", " ", "+"},
		{"a+b", "a b", "a+b"},
		{"++a++", "  a  ", "++a++"},
		{"%2B", "+", "+"},
		{"%2b+%20", "+  ", "++ "},
		{"a b", "a b", "a b"},
		{"é+\xFF", "é \xFF", "é+\xFF"},
		{"%2541", "%41", "%41"},
		{"%25+", "% ", "%+"},
	} {
		checkUnpercent(t, x.s, true, x.with, api.OK)
		checkUnpercent(t, x.s, false, x.without, api.OK)
	}
}

// Behind a % each pair of bytes is two digits, or an ErrForm.
func TestUnpercentOfEachPairOfBytes(t *testing.T) {
	const digits = "0123456789abcdefABCDEF"
	for x := range 1 << 16 {
		two := string([]byte{byte(x >> 8), byte(x)})
		isCode := strings.IndexByte(digits, two[0]) >= 0 && strings.IndexByte(digits, two[1]) >= 0
		for _, plus := range []bool{false, true} {
			_, e := Unpercent("a%"+two, plus)
			y, f := Unpercent("%"+two+"41", plus)
			if (e == api.OK) != isCode || (f == api.OK) != isCode {
				t.Fatalf("P3.1: Unpercent of %q: %d, %d", "%"+two, e, f)
			}
			if !isCode && (e != api.ErrForm || f != api.ErrForm || y != "") {
				t.Fatalf("P3.1: Unpercent of %q: %d, %q, %d", "%"+two, e, y, f)
			}
		}
	}
}

var brokenCodes = []string{"%", "%4", "%f", "%g", "%%", "%%41", "%4%41", "%4g", "%g4", "%+1", "%1+", "%-1", "% 1", "%0x41", "%x41", "%é", "%4é", "%1\x00", "%\xFF\xFF", "%１２", "%&", "%="}

func TestUnpercentBroken(t *testing.T) {
	for _, s := range brokenCodes {
		for _, plus := range []bool{false, true} {
			checkUnpercent(t, s, plus, "", api.ErrForm)
			checkUnpercent(t, "a+b%20"+s, plus, "", api.ErrForm)
			checkUnpercent(t, s+"g%41", plus, "", api.ErrForm)
		}
	}
}

// All short texts of a few bytes, read by a second reading that goes from the end.
func TestUnpercentOfAllShortTexts(t *testing.T) {
	shortTexts(6, "%4fG+\xC3", func(s string) {
		for _, plus := range []bool{false, true} {
			parts := strings.Split(s, "%")
			want, err := parts[0], api.OK
			if plus {
				want = strings.ReplaceAll(want, "+", " ")
			}
			for _, part := range parts[1:] {
				var c byte
				if n, e := fmt.Sscanf(part, "%02x", &c); n != 1 || e != nil || len(part) < 2 || strings.ContainsAny(part[:2], "G+\xC3") {
					want, err = "", api.ErrForm
					break
				}
				tail := part[2:]
				if plus {
					tail = strings.ReplaceAll(tail, "+", " ")
				}
				want += string([]byte{c}) + tail
			}
			checkUnpercent(t, s, plus, want, err)
		}
	})
}

func TestQuery(t *testing.T) {
	for _, x := range []struct {
		ps   []api.Pair
		want string
	}{
		{nil, ""},
		{[]api.Pair{}, ""},
		{[]api.Pair{{}}, "="},
		{[]api.Pair{{}, {}}, "=&="},
		{[]api.Pair{{Name: "a"}}, "a="},
		{[]api.Pair{{Value: "a"}}, "=a"},
		{[]api.Pair{{Name: "a", Value: "1"}, {Name: "b", Value: "2"}}, "a=1&b=2"},
		{[]api.Pair{{Name: "b", Value: "2"}, {Name: "a", Value: "1"}, {Name: "b", Value: "2"}}, "b=2&a=1&b=2"},
		{[]api.Pair{{Name: "a b", Value: "c d"}}, "a%20b=c%20d"},
		{[]api.Pair{{Name: "=", Value: "&"}, {Name: "&", Value: "="}, {Name: "+", Value: "%"}}, "%3D=%26&%26=%3D&%2B=%25"},
		{[]api.Pair{{Name: "é", Value: "\xFF"}, {}}, "%C3%A9=%FF&="},
	} {
		if s := Query(x.ps...); s != x.want {
			t.Errorf("P3.2: Query(%q): %q, not %q", x.ps, s, x.want)
		}
		checkParse(t, x.want, x.ps, api.OK)
	}
	if Query() != "" {
		t.Error("P3.2: Query of no pairs isn't empty")
	}
	many := make([]api.Pair, 100)
	if s := Query(many...); s != strings.Repeat("=&", 99)+"=" {
		t.Errorf("P3.2: Query of 100 pairs: %q", s)
	}
}

func TestParseQuery(t *testing.T) {
	for _, x := range []struct {
		s    string
		want []api.Pair
	}{
		{"", nil},
		{"&", nil},
		{"&&&", nil},
		{strings.Repeat("&", 1000), nil},
		{"=", []api.Pair{{}}},
		{"==", []api.Pair{{Value: "="}}},
		{"a", []api.Pair{{Name: "a"}}},
		{"a=", []api.Pair{{Name: "a"}}},
		{"=a", []api.Pair{{Value: "a"}}},
		{"&a=1", []api.Pair{{Name: "a", Value: "1"}}},
		{"a=1&", []api.Pair{{Name: "a", Value: "1"}}},
		{"a=1&&b=%41+c&d", []api.Pair{{Name: "a", Value: "1"}, {Name: "b", Value: "A c"}, {Name: "d"}}},
		{"a=1=2==", []api.Pair{{Name: "a", Value: "1=2=="}}},
		{"a=1&a=2&a=1", []api.Pair{{Name: "a", Value: "1"}, {Name: "a", Value: "2"}, {Name: "a", Value: "1"}}},
		{"a+b=c+d", []api.Pair{{Name: "a b", Value: "c d"}}},
		{"a%3db=1%3D2", []api.Pair{{Name: "a=b", Value: "1=2"}}},
		{"a%26b=1%262", []api.Pair{{Name: "a&b", Value: "1&2"}}},
		{"%2B=%25%34%31", []api.Pair{{Name: "+", Value: "%41"}}},
		{"é=\xFF&\xC3=\xA9", []api.Pair{{Name: "é", Value: "\xFF"}, {Name: "\xC3", Value: "\xA9"}}},
		{"a;b= 1", []api.Pair{{Name: "a;b", Value: " 1"}}},
		{"a\n=\x00", []api.Pair{{Name: "a\n", Value: "\x00"}}},
		{"a=1&amp;b=2", []api.Pair{{Name: "a", Value: "1"}, {Name: "amp;b", Value: "2"}}},
		{"?a=1#b", []api.Pair{{Name: "?a", Value: "1#b"}}},
	} {
		checkParse(t, x.s, x.want, api.OK)
	}
}

// The pieces that count are those that aren't empty: 64 are taken, and 65 are too many, broken or not.
func TestParseQueryLong(t *testing.T) {
	for _, piece := range []string{"a", "=", "a=1", "+", "%41=%42", "é"} {
		for _, between := range []string{"&", "&&", "&&&&&"} {
			for _, n := range []int{1, 63, 64} {
				s := between + strings.Repeat(piece+between, n)
				ps, e := ParseQuery(s)
				if e != api.OK || len(ps) != n {
					t.Errorf("P3.2: ParseQuery of %d times %q: %d pairs, %d", n, piece+between, len(ps), e)
				}
				checkParse(t, s+"%", nil, map[bool]api.Errno{true: api.ErrForm, false: api.ErrLong}[n < 64])
			}
			for _, n := range []int{65, 66, 128, 1000} {
				checkParse(t, strings.Repeat(piece+between, n), nil, api.ErrLong)
				checkParse(t, strings.Repeat(between+piece, n), nil, api.ErrLong)
			}
		}
	}
	for _, s := range brokenCodes {
		piece := strings.ReplaceAll(s, "&", "")
		checkParse(t, strings.Repeat(piece+"&", 64), nil, api.ErrForm)
		checkParse(t, strings.Repeat(piece+"&", 65), nil, api.ErrLong)
		checkParse(t, piece+strings.Repeat("&a=1", 64), nil, api.ErrLong)
	}
}

// A broken code in a Name, in a Value or in both, of any piece.
func TestParseQueryBroken(t *testing.T) {
	for _, s := range brokenCodes {
		for _, piece := range []string{s, s + "=", s + "=1", "=" + s, "a=" + s, s + "=" + s, "a=1=" + s, "a" + s + "=b" + s} {
			for _, whole := range []string{piece, piece + "&a=1", "a=1&" + piece, "a=1&&" + piece + "&b=2", piece + "&" + piece} {
				checkParse(t, whole, nil, api.ErrForm)
			}
		}
	}
	// A code isn't read across what parts the text.
	for _, s := range []string{"%4&1", "%&41", "a%4=1", "a%=41", "a=%&41", "a=%4&1=b"} {
		checkParse(t, s, nil, api.ErrForm)
	}
}

// All short texts of a few bytes, against the plain words of the promise.
func TestParseQueryOfAllShortTexts(t *testing.T) {
	shortTexts(7, "a=&+%4", func(s string) {
		var want []api.Pair
		err := api.OK
		for _, piece := range strings.Split(s, "&") {
			if piece == "" {
				continue
			}
			halves := append(strings.SplitN(piece, "=", 2), "")
			name, e := Unpercent(halves[0], true)
			value, f := Unpercent(halves[1], true)
			if e != api.OK || f != api.OK {
				want, err = nil, api.ErrForm
				break
			}
			want = append(want, api.Pair{Name: name, Value: value})
		}
		checkParse(t, s, want, err)
	})
}

func TestParseQueryOfQuery(t *testing.T) {
	r := rand.New(rand.NewSource(33))
	text := func() string {
		b := make([]byte, r.Intn(6))
		for i := range b {
			b[i] = byte(r.Intn(256))
			if r.Intn(2) == 0 {
				b[i] = "&=+%4 \x00\xFF"[r.Intn(8)]
			}
		}
		return string(b)
	}
	for n := range 67 {
		for range 20 {
			ps := make([]api.Pair, n)
			for i := range ps {
				ps[i] = api.Pair{Name: text(), Value: text()}
			}
			got, e := ParseQuery(Query(ps...))
			switch {
			case n > 64 && (e != api.ErrLong || len(got) != 0):
				t.Fatalf("P3.2: ParseQuery of the Query of %d pairs: %q, %d", n, got, e)
			case n <= 64 && (e != api.OK || !slices.Equal(got, ps)):
				t.Fatalf("P3.4: ParseQuery of Query(%q): %q, %d", ps, got, e)
			}
		}
	}
	manyTexts(func(s string) {
		ps := []api.Pair{{Name: s}, {Value: s}, {Name: s, Value: s}}
		if got, e := ParseQuery(Query(ps...)); e != api.OK || !slices.Equal(got, ps) {
			t.Fatalf("P3.4: ParseQuery of Query(%q): %q, %d", ps, got, e)
		}
	})
}

func TestGet(t *testing.T) {
	ps := []api.Pair{{Name: "a", Value: "1"}, {Name: "b", Value: ""}, {Name: "a", Value: "2"}, {Name: "", Value: "x"}, {Name: "b", Value: "3"}, {Name: "a", Value: "1"}, {Name: "A", Value: "4"}}
	for _, x := range []struct {
		name, value string
		count       int
	}{
		{"a", "1", 3}, {"b", "", 2}, {"", "x", 1}, {"A", "4", 1}, {"c", "", 0}, {"aa", "", 0}, {"a ", "", 0}, {"1", "", 0}, {"\xFF", "", 0},
	} {
		if v, n := Get(ps, x.name); v != x.value || n != x.count {
			t.Errorf("P3.2: Get of %q: %q, %d, not %q, %d", x.name, v, n, x.value, x.count)
		}
		for _, none := range [][]api.Pair{nil, {}} {
			if v, n := Get(none, x.name); v != "" || n != 0 {
				t.Errorf("P3.2: Get of %q from nothing: %q, %d", x.name, v, n)
			}
		}
	}
	if v, n := Get(ps[1:], "a"); v != "2" || n != 2 {
		t.Errorf("P3.2: Get of the first one: %q, %d", v, n)
	}
	if v, n := Get(make([]api.Pair, 1000), ""); v != "" || n != 1000 {
		t.Errorf("P3.2: Get of 1000 pairs: %q, %d", v, n)
	}
}

// instead tells for one of the calls of P3.3 what stands instead of which byte.
type instead struct {
	name  string
	call  func(s string) string
	other map[byte]string
}

func insteads() []instead {
	return []instead{
		{"Attr", Attr, map[byte]string{'&': "&amp;", '<': "&lt;", '"': "&quot;", 0x9: "&#x9;", 0xA: "&#xA;", 0xD: "&#xD;"}},
		{"Text", Text, map[byte]string{'&': "&amp;", '<': "&lt;", '>': "&gt;", 0xD: "&#xD;"}},
		{"Page", Page, map[byte]string{'&': "&amp;", '<': "&lt;", '>': "&gt;", '"': "&quot;", '\'': "&#39;"}},
	}
}

func TestAttrTextPage(t *testing.T) {
	const s = "a&<>\"'\t\n\r\r\n é&amp;&#x9;]]>\x00\x0B\x0C\x7F\xFF\xC3\uFFFD\u0085\u2028"
	for _, x := range []struct {
		name, got, want string
	}{
		{"Attr", Attr(s), "a&amp;&lt;>&quot;'&#x9;&#xA;&#xD;&#xD;&#xA; é&amp;amp;&amp;#x9;]]>\x00\x0B\x0C\x7F\xFF\xC3\uFFFD\u0085\u2028"},
		{"Text", Text(s), "a&amp;&lt;&gt;\"'\t\n&#xD;&#xD;\n é&amp;amp;&amp;#x9;]]&gt;\x00\x0B\x0C\x7F\xFF\xC3\uFFFD\u0085\u2028"},
		{"Page", Page(s), "a&amp;&lt;&gt;&quot;&#39;\t\n\r\r\n é&amp;amp;&amp;#x9;]]&gt;\x00\x0B\x0C\x7F\xFF\xC3\uFFFD\u0085\u2028"},
	} {
		if x.got != x.want {
			t.Errorf("P3.3: %s(%q): %q, not %q", x.name, s, x.got, x.want)
		}
	}
	for _, x := range insteads() {
		if s := x.call(""); s != "" {
			t.Errorf("P3.3: %s of nothing: %q", x.name, s)
		}
	}
}

func TestAttrTextPageOfManyTexts(t *testing.T) {
	for _, x := range insteads() {
		manyTexts(func(s string) {
			want := ""
			for _, c := range []byte(s) {
				if x.other[c] != "" {
					want += x.other[c]
				} else {
					want += string([]byte{c})
				}
			}
			if got := x.call(s); got != want {
				t.Fatalf("P3.3: %s(%q): %q, not %q", x.name, s, got, want)
			}
		})
	}
}

// shares tells whether a stands in the memory of b.
func shares(a, b string) bool {
	if a == "" || b == "" {
		return false
	}
	at, from := uintptr(unsafe.Pointer(unsafe.StringData(a))), uintptr(unsafe.Pointer(unsafe.StringData(b)))
	return from <= at && at < from+uintptr(len(b))
}

func TestAnswersAreNew(t *testing.T) {
	s := strings.Repeat("lanyard", 9)
	unpercent := func(s string) string { x, _ := Unpercent(s, true); return x }
	get := func(s string) string {
		x, _ := Get([]api.Pair{{Name: "a", Value: s}, {Name: "a", Value: s}}, "a")
		return x
	}
	name := func(s string) string { ps, _ := ParseQuery(s); return ps[0].Name }
	value := func(s string) string { ps, _ := ParseQuery("=" + s); return ps[0].Value }
	for i, call := range []func(string) string{Percent, unpercent, get, name, value, Attr, Text, Page} {
		if x := call(s); x != s || shares(x, s) {
			t.Errorf("P3.4: the answer of call %d is not new memory: %q", i, x)
		}
	}
	query := strings.Repeat("a", 50) + "=" + strings.Repeat("b", 50)
	ps, _ := ParseQuery(query)
	if shares(ps[0].Name, query) || shares(ps[0].Value, query) {
		t.Error("P3.4: pairs are not new memory")
	}
	ps[0] = api.Pair{}
	clear(ps[:cap(ps)])
	if again, e := ParseQuery(query); e != api.OK || len(again) != 1 || again[0].Name != query[:50] {
		t.Errorf("P3.4: pairs of an earlier answer are answered again: %q", again)
	}
}

// What is handed in is neither changed nor kept, its spare room included.
func TestArgumentsAreLeft(t *testing.T) {
	room := []api.Pair{{Name: "a b", Value: "c&d"}, {Name: "e", Value: "f"}, {Name: "spare", Value: "room"}}
	was := slices.Clone(room)
	s := Query(room[:2]...)
	v, n := Get(room[:2], "e")
	if !slices.Equal(room, was) {
		t.Errorf("P3.4: an argument was changed: %q", room)
	}
	clear(room)
	if s != "a%20b=c%26d&e=f" || v != "f" || n != 1 {
		t.Errorf("P3.4: an argument was kept: %q, %q, %d", s, v, n)
	}
}

// Long texts are gone through once or a few times, not once for each byte.
func TestLongTexts(t *testing.T) {
	s := strings.Repeat("a b&<é+%\r", 1<<17)
	for _, plus := range []bool{false, true} {
		if x, e := Unpercent(Percent(s), plus); x != s || e != api.OK {
			t.Errorf("P3.4: a long text is read back otherwise: %d bytes, %d", len(x), e)
		}
	}
	ps := []api.Pair{{Name: s, Value: s}}
	if got, e := ParseQuery(Query(ps...)); e != api.OK || !slices.Equal(got, ps) {
		t.Errorf("P3.4: a long pair is read back otherwise: %d", e)
	}
	if n := len(Attr(s)); n != len(s)+(1<<17)*(4+3+4) {
		t.Errorf("P3.3: Attr of a long text: %d bytes", n)
	}
	checkParse(t, strings.Repeat("&", 1<<20)+"a", []api.Pair{{Name: "a"}}, api.OK)
	if _, e := ParseQuery(strings.Repeat("a&", 1<<19)); e != api.ErrLong {
		t.Errorf("P3.2: ParseQuery of half a million pieces: %d", e)
	}
}
