package chars

import (
	"bytes"
	"slices"
	"strings"
	"testing"
	"unicode/utf8"
	"unsafe"
)

// ends are the first and the last code point of a range of the chapter.
type ends struct{ first, last int }

var (
	characters = []ends{{0x9, 0x9}, {0xA, 0xA}, {0xD, 0xD}, {0x20, 0xD7FF}, {0xE000, 0xFFFD}, {0x10000, 0x10FFFF}}
	beginnings = []ends{{0x41, 0x5A}, {0x61, 0x7A}, {0x5F, 0x5F}, {0xC0, 0xD6}, {0xD8, 0xF6}, {0xF8, 0x2FF}, {0x370, 0x37D}, {0x37F, 0x1FFF}, {0x200C, 0x200C}, {0x200D, 0x200D}, {0x2070, 0x218F}, {0x2C00, 0x2FEF}, {0x3001, 0xD7FF}, {0xF900, 0xFDCF}, {0xFDF0, 0xFFFD}, {0x10000, 0xEFFFF}}
	onlyBehind = []ends{{0x30, 0x39}, {0x2D, 0x2D}, {0x2E, 0x2E}, {0xB7, 0xB7}, {0x300, 0x36F}, {0x203F, 0x203F}, {0x2040, 0x2040}}
)

func in(c int, rs []ends) bool {
	return slices.ContainsFunc(rs, func(r ends) bool { return r.first <= c && c <= r.last })
}

// coded has the bytes of a code point by the plain rule of UTF-8, surrogates and those beyond 10FFFF too.
func coded(c int) string {
	switch {
	case c < 0x80:
		return string([]byte{byte(c)})
	case c < 0x800:
		return string([]byte{0xC0 | byte(c>>6), 0x80 | byte(c&63)})
	case c < 0x10000:
		return string([]byte{0xE0 | byte(c>>12), 0x80 | byte(c>>6&63), 0x80 | byte(c&63)})
	}
	return string([]byte{0xF0 | byte(c>>18), 0x80 | byte(c>>12&63), 0x80 | byte(c>>6&63), 0x80 | byte(c&63)})
}

func TestBadOfEachCodePoint(t *testing.T) {
	for c := 0; c < 0x140000; c++ {
		want := 3
		if in(c, characters) {
			want = -1
		}
		if n := Bad([]byte("é!" + coded(c) + "b")); n != want {
			t.Fatalf("P1.1: Bad with code point %X: %d, not %d", c, n, want)
		}
	}
}

func TestBadOfBytes(t *testing.T) {
	for _, x := range []struct {
		s    string
		want int
	}{
		{"", -1},
		{"plain", -1},
		{"aé€\U0001F600", -1},
		{"\t\n\r ", -1},
		{"\x61\xC0\x80", 1},
		{"\x00", 0},
		{"\x08", 0},
		{"\x0B", 0},
		{"\x0C", 0},
		{"\x0E", 0},
		{"\x1F", 0},
		{"\x7F", -1},
		{"a\x80", 1},
		{"a\xBF\xBF", 1},
		{"\xC1\xBF", 0},
		{"\xE0\x80\x80", 0},
		{"\xE0\x9F\xBF", 0},
		{"\xE0\xA0\x80", -1},
		{"\xF0\x80\x80\x80", 0},
		{"\xF0\x8F\xBF\xBF", 0},
		{"\xF0\x90\x80\x80", -1},
		{"\xED\x9F\xBF", -1},
		{"\xED\xA0\x80", 0},
		{"\xED\xBF\xBF", 0},
		{"\xEE\x80\x80", -1},
		{"\xEF\xBF\xBD", -1},
		{"\xEF\xBF\xBD\xEF\xBF", 3},
		{"\xEF\xBF\xBE", 0},
		{"\xEF\xBF\xBF", 0},
		{"\xF4\x8F\xBF\xBF", -1},
		{"\xF4\x90\x80\x80", 0},
		{"\xF5\x80\x80\x80", 0},
		{"\xF8\x88\x80\x80\x80", 0},
		{"ab\xFE", 2},
		{"ab\xFF", 2},
		{"é\xC3", 2},
		{"€\xE2\x82", 3},
		{"\U0001F600\xF0\x9F\x98", 4},
		{"\xC3a", 0},
		{"\xE2\x82a", 0},
		{"a\xFFb\xFF", 1},
	} {
		if n := Bad([]byte(x.s)); n != x.want {
			t.Errorf("P1.1: Bad(%q): %d, not %d", x.s, n, x.want)
		}
	}
	if n := Bad(nil); n != -1 {
		t.Errorf("P1.1: Bad(nil): %d", n)
	}
}

// slowBad tells by the library's reading of UTF-8 what Bad must.
func slowBad(b []byte) int {
	for i := 0; i < len(b); {
		r, n := utf8.DecodeRune(b[i:])
		if r == utf8.RuneError && n == 1 || !in(int(r), characters) {
			return i
		}
		i += n
	}
	return -1
}

func TestBadOfAllPairsAndEdges(t *testing.T) {
	for x := range 1 << 16 {
		b := []byte{byte(x >> 8), byte(x)}
		if n := Bad(b); n != slowBad(b) {
			t.Fatalf("P1.1: Bad(%X): %d, not %d", b, n, slowBad(b))
		}
	}
	edges := []byte{0x00, 0x0A, 0x41, 0x7F, 0x80, 0x8F, 0x90, 0x9F, 0xA0, 0xBD, 0xBE, 0xBF, 0xC0, 0xC1, 0xC2, 0xDF, 0xE0, 0xE1, 0xED, 0xEE, 0xEF, 0xF0, 0xF1, 0xF4, 0xF5, 0xFF}
	n := len(edges)
	for x := range n * n * n * n {
		b := []byte{edges[x/(n*n*n)], edges[x/(n*n)%n], edges[x/n%n], edges[x%n]}
		if n := Bad(b); n != slowBad(b) {
			t.Fatalf("P1.1: Bad(%X): %d, not %d", b, n, slowBad(b))
		}
	}
}

func TestBadLeavesItsBytes(t *testing.T) {
	room := []byte("aé\xFFspare")
	was := bytes.Clone(room)
	Bad(room[:4])
	if !bytes.Equal(room, was) {
		t.Errorf("Bad has changed its argument: %q", room)
	}
}

func TestNameOfEachCodePoint(t *testing.T) {
	for c := 0; c < 0x140000; c++ {
		s := coded(c)
		first := in(c, beginnings)
		behind := first || in(c, onlyBehind)
		if Name(s) != first || Name(s+"a") != first {
			t.Fatalf("P1.1: a name that begins with %X: not %v", c, first)
		}
		if Name("a"+s) != behind || Name("é"+s+"z") != behind {
			t.Fatalf("P1.1: a name with %X within: not %v", c, behind)
		}
	}
}

func TestNameOfTexts(t *testing.T) {
	for _, x := range []struct {
		s    string
		want bool
	}{
		{"", false},
		{"_a", true},
		{"é1", true},
		{"1a", false},
		{"a:b", false},
		{":a", false},
		{"a b", false},
		{"a\n", false},
		{" a", false},
		{"-", false},
		{".", false},
		{"a-", true},
		{"a.", true},
		{"_", true},
		{"\uFFFD", true},
		{"a\uFFFD", true},
		{"\xFF", false},
		{"a\xFF", false},
		{"a\xEF\xBF", false},
		{"a\xC1\xA1", false},
		{"\xC1\xA1", false},
		{"a\xE9", false},
		{"a\xED\xA0\x80", false},
		{"a\xF4\x90\x80\x80", false},
		{strings.Repeat("a", 256), true},
		{strings.Repeat("a", 257), false},
		{strings.Repeat("é", 128), true},
		{"a" + strings.Repeat("é", 128), false},
		{strings.Repeat("é", 128) + "a", false},
		{strings.Repeat("\U00010000", 64), true},
		{strings.Repeat("\U00010000", 65), false},
		{strings.Repeat("a", 1<<20), false},
	} {
		if Name(x.s) != x.want {
			t.Errorf("P1.1: Name(%.20q): not %v", x.s, x.want)
		}
	}
}

func TestNameOfSeveral(t *testing.T) {
	if !Name() || !Name("a", "b", "_c") {
		t.Error("P1.1: Name of none, or of names alone: false")
	}
	for _, names := range [][]string{{"1", "a"}, {"a", "1", "b"}, {"a", "b", ""}} {
		if Name(names...) {
			t.Errorf("P1.1: Name(%q): true", names)
		}
	}
}

func TestLines(t *testing.T) {
	for s, want := range map[string]string{
		"":                  "",
		"a":                 "a",
		"a\r\nb\rc\r\r\n":   "a\nb\nc\n\n",
		"\r":                "\n",
		"\n":                "\n",
		"\r\n":              "\n",
		"\n\r":              "\n\n",
		"\r\r":              "\n\n",
		"\r\n\r\n":          "\n\n",
		"\r\n\n":            "\n\n",
		" \t ":              " \t ",
		"é\r\n\xFF\r\xC3\n": "é\n\xFF\n\xC3\n",
		"\u0085\u2028":      "\u0085\u2028",
	} {
		if made := Lines(s); made != want {
			t.Errorf("P1.2: Lines(%q): %q, not %q", s, made, want)
		}
	}
}

func TestFlat(t *testing.T) {
	for s, want := range map[string]string{
		"":                  "",
		"a\tb\r\nc":         "a b  c",
		"\t\n\r ":           "    ",
		"\x0B\x0C\x00":      "\x0B\x0C\x00",
		"é\t\xFF\n\xE2\x82": "é \xFF \xE2\x82",
		"\u00A0\u2003":      "\u00A0\u2003",
	} {
		if made := Flat(s); made != want {
			t.Errorf("P1.2: Flat(%q): %q, not %q", s, made, want)
		}
	}
}

func TestCollapseAndWords(t *testing.T) {
	for s, want := range map[string][]string{
		"":                       nil,
		" ":                      nil,
		"\t\n\r ":                nil,
		"a":                      {"a"},
		"  a \n b ":              {"a", "b"},
		"\ta  b\n":               {"a", "b"},
		"a\r\nb\tc d":            {"a", "b", "c", "d"},
		"a\u00A0b\u0085 \u2003":  {"a\u00A0b\u0085", "\u2003"},
		"\x0Ba\x0C \xFF\n\xE2 é": {"\x0Ba\x0C", "\xFF", "\xE2", "é"},
		"\xC2 \xA0":              {"\xC2", "\xA0"},
	} {
		if made := Words(s); !slices.Equal(made, want) {
			t.Errorf("P1.2: Words(%q): %q, not %q", s, made, want)
		}
		if made := Collapse(s); made != strings.Join(want, " ") {
			t.Errorf("P1.2: Collapse(%q): %q, not %q", s, made, strings.Join(want, " "))
		}
	}
}

// texts are all texts of up to six of some signs: blanks, letters, bytes that are no characters.
func texts(f func(s string)) {
	signs := []string{" ", "\t", "\n", "\r", "a", "é", "\xC3", "\xFF"}
	var grow func(s string, more int)
	grow = func(s string, more int) {
		f(s)
		for _, x := range signs {
			if more > 0 {
				grow(s+x, more-1)
			}
		}
	}
	grow("", 6)
}

func TestMakersOfAllShortTexts(t *testing.T) {
	flat := strings.NewReplacer("\t", " ", "\n", " ", "\r", " ")
	lines := strings.NewReplacer("\r\n", "\n", "\r", "\n")
	texts(func(s string) {
		words := slices.DeleteFunc(strings.Split(flat.Replace(s), " "), func(w string) bool { return w == "" })
		if Lines(s) != lines.Replace(s) || Flat(s) != flat.Replace(s) {
			t.Fatalf("P1.2: %q: Lines %q, Flat %q", s, Lines(s), Flat(s))
		}
		if !slices.Equal(Words(s), words) || Collapse(s) != strings.Join(words, " ") {
			t.Fatalf("P1.2: %q: Words %q, Collapse %q", s, Words(s), Collapse(s))
		}
	})
}

func TestMadeIsMadeAsItself(t *testing.T) {
	texts(func(s string) {
		for _, f := range []func(string) string{Lines, Flat, Collapse} {
			if made := f(s); f(made) != made {
				t.Fatalf("P1.3: of %q is made %q, of this %q", s, made, f(made))
			}
		}
		if !slices.Equal(Words(Collapse(s)), Words(s)) {
			t.Fatalf("P1.3: %q: Words of Collapse are %q, Words %q", s, Words(Collapse(s)), Words(s))
		}
	})
}

// shared tells whether two texts have a byte of memory in common.
func shared(a, b string) bool {
	if a == "" || b == "" {
		return false
	}
	x, y := uintptr(unsafe.Pointer(unsafe.StringData(a))), uintptr(unsafe.Pointer(unsafe.StringData(b)))
	return x < y+uintptr(len(b)) && y < x+uintptr(len(a))
}

func TestAnswersAreNewMemory(t *testing.T) {
	for _, s := range []string{"one", "one two", " one\r\ntwo\tthree ", "\xFF"} {
		for i, f := range []func(string) string{Lines, Flat, Collapse} {
			if shared(f(s), s) {
				t.Errorf("P1.3: maker %d shares %q", i, s)
			}
		}
		words := Words(s)
		for i, w := range words {
			if shared(w, s) {
				t.Errorf("P1.3: Words shares %q of %q", w, s)
			}
			for _, other := range words[:i] {
				if shared(w, other) {
					t.Errorf("P1.3: Words of %q: %q and %q share memory", s, w, other)
				}
			}
		}
	}
	again := Words("a b")
	again[0] = "changed"
	if !slices.Equal(Words("a b"), []string{"a", "b"}) {
		t.Error("P1.3: Words hands out one list twice")
	}
}

// Lists this long end in time only if no byte is gone over again for each one ahead of it.
func TestLongTexts(t *testing.T) {
	const many = 1 << 20
	s := strings.Repeat("\r\n\ta", many)
	if n := len(Lines(s)); n != 3*many {
		t.Errorf("P1.2: Lines of a long text: %d bytes", n)
	}
	if n := len(Flat(s)); n != 4*many {
		t.Errorf("P1.2: Flat of a long text: %d bytes", n)
	}
	if n := len(Words(s)); n != many {
		t.Errorf("P1.2: Words of a long text: %d", n)
	}
	if n := len(Collapse(s)); n != 2*many-1 {
		t.Errorf("P1.2: Collapse of a long text: %d bytes", n)
	}
	if n := Bad([]byte(s + "\xFF")); n != 4*many {
		t.Errorf("P1.1: Bad of a long text: %d", n)
	}
}
