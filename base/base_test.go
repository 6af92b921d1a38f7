package base

import (
	"bytes"
	"encoding/base64"
	"encoding/hex"
	"math"
	"math/rand"
	"strings"
	"testing"
	"unsafe"

	"lanyard/api"
)

const alphabet = "ABCDEFGHIJKLMNOPQRSTUVWXYZabcdefghijklmnopqrstuvwxyz0123456789+/"

var blanks = []string{" ", "\t", "\n", "\r", "\r\n", " \t\r\n  "}

func checkDecode(t *testing.T, s string, want []byte, wantErr api.Errno) {
	t.Helper()
	b, e := Decode(s)
	if e != wantErr || !bytes.Equal(b, want) {
		t.Fatalf("P2.1: Decode(%q): %X, %d, not %X, %d", s, b, e, want, wantErr)
	}
}

func checkUnhex(t *testing.T, s string, want []byte, wantErr api.Errno) {
	t.Helper()
	b, e := Unhex(s)
	if e != wantErr || !bytes.Equal(b, want) {
		t.Fatalf("P2.3: Unhex(%q): %X, %d, not %X, %d", s, b, e, want, wantErr)
	}
}

// manyBytes hands each list of up to two bytes to try, and some longer ones.
func manyBytes(try func(b []byte)) {
	try(nil)
	try([]byte{})
	for x := range 1 << 8 {
		try([]byte{byte(x)})
	}
	for x := range 1 << 16 {
		try([]byte{byte(x >> 8), byte(x)})
	}
	r := rand.New(rand.NewSource(2))
	for n := range 600 {
		b := make([]byte, 3+n%200)
		r.Read(b)
		try(b)
	}
}

func TestEncodeExamples(t *testing.T) {
	for s, want := range map[string]string{
		"":                         "",
		"f":                        "Zg==",
		"fo":                       "Zm8=",
		"foo":                      "Zm9v",
		"foob":                     "Zm9vYg==",
		"fooba":                    "Zm9vYmE=",
		"foobar":                   "Zm9vYmFy",
		"\x00":                     "AA==",
		"\x00\x00":                 "AAA=",
		"\x00\x00\x00":             "AAAA",
		"\xff":                     "/w==",
		"\xff\xff":                 "//8=",
		"\xff\xff\xff":             "////",
		"\xfb\xef\xbe":             "++++",
		"\x00\x10\x83\x10\x51\x87": "ABCDEFGH",
	} {
		if x := Encode([]byte(s)); x != want {
			t.Errorf("P2.1: Encode(%q): %q, not %q", s, x, want)
		}
		checkDecode(t, want, []byte(s), api.OK)
	}
	if Encode(nil) != "" {
		t.Error("P2.1: Encode(nil) is not empty")
	}
}

func TestEncodeOfManyBytes(t *testing.T) {
	manyBytes(func(b []byte) {
		if x, want := Encode(b), base64.StdEncoding.EncodeToString(b); x != want {
			t.Fatalf("P2.1: Encode(%X): %q, not %q", b, x, want)
		}
	})
}

// Each place of three bytes with each byte there, the others all bits or none.
func TestEncodeOfEachByteInEachPlace(t *testing.T) {
	for place := range 3 {
		for x := range 1 << 8 {
			for _, other := range []byte{0, 0xFF} {
				b := []byte{other, other, other}
				b[place] = byte(x)
				want := base64.StdEncoding.EncodeToString(b)
				if s := Encode(b); s != want {
					t.Fatalf("P2.1: Encode(%X): %q, not %q", b, s, want)
				}
				checkDecode(t, want, b, api.OK)
			}
		}
	}
}

func TestDecodeOfEncode(t *testing.T) {
	manyBytes(func(b []byte) {
		s := Encode(b)
		for _, n := range []int{math.MinInt, 0, 1, 3, 4, 76, math.MaxInt} {
			x, e := Decode(Fold(s, n))
			if e != api.OK || !bytes.Equal(x, b) {
				t.Fatalf("P2.4: Decode of Encode(%X), folded at %d: %X, %d", b, n, x, e)
			}
		}
	})
}

// Blanks count for nothing at any place of a text that is base64, and of one that is none.
func TestDecodeLeavesOutBlanks(t *testing.T) {
	for _, x := range []struct {
		s    string
		want string
		err  api.Errno
	}{
		{"", "", api.OK},
		{"Zg==", "f", api.OK},
		{"Zm8=", "fo", api.OK},
		{"Zm9vYmFy", "foobar", api.OK},
		{"Zh==", "", api.ErrForm},
		{"Zg=", "", api.ErrForm},
		{"Zg", "", api.ErrForm},
		{"Zg=-", "", api.ErrChar},
	} {
		for _, blank := range blanks {
			for i := range len(x.s) + 1 {
				checkDecode(t, x.s[:i]+blank+x.s[i:], []byte(x.want), x.err)
			}
			everywhere := blank + strings.Join(strings.Split(x.s, ""), blank) + blank
			checkDecode(t, everywhere, []byte(x.want), x.err)
		}
	}
}

// A byte at any place of a text is one of the 64 signs, a filler, a blank, or an ErrChar.
func TestDecodeOfEachByte(t *testing.T) {
	for x := range 1 << 8 {
		c := string([]byte{byte(x)})
		for _, s := range []string{c, "Zm9v" + c, c + "Zm9v", "Zm" + c + "9v", "Zg==" + c, "Zg=" + c, "Zh==" + c + "=", c + "="} {
			_, e := Decode(s)
			known := strings.Contains(alphabet+"= \t\n\r", c)
			if known == (e == api.ErrChar) {
				t.Errorf("P2.1: Decode(%q): %d", s, e)
			}
		}
	}
}

func TestDecodeOfOtherCharacters(t *testing.T) {
	for _, c := range []string{"-", "_", ",", ".", "@", "[", "`", "{", ":", "*", "\v", "\f", "\x00", "\x7F", "\u0085", "\u00A0", "\u2003", "\uFEFF", "\uFFFD", "\u017F", "\u212A", "é", "Ａ", "＝", "\U0001D400", "\U00010041", "\xC3", "\xFF", "\xC1\x81"} {
		for _, s := range []string{c, "Zg==" + c, c + "Zg==", "Z" + c + "g==", "Zh==" + c, "=" + c, c + "=", "Z" + c, "====" + c, c + "Zg==Zg=="} {
			checkDecode(t, s, nil, api.ErrChar)
		}
	}
}

func TestDecodeForm(t *testing.T) {
	for _, s := range []string{
		"Z", "Zg", "Zm9", "Zg=", "Zm8", "Zm9vZ", "Zm9vZg", "Zm9vZm9", "Zm9v=", "Zm9v==", "Zm9v===", "Zm9v====",
		"=", "==", "===", "====", "=====", "=Zg=", "==Zg", "=Zm9v", "Z=", "Z==", "Z===", "Z=g=", "Z=m8", "Zg=v", "Zg===", "Zg====", "Zm8==", "Zm8===",
		"Zg==Zg==", "Zm8=Zm8=", "Zg==Zm9v", "Zm8=Zm9v", "Zm8=Zg==", "Zm9vZg==Zm9v", "====Zm9v",
		"Zh==", "Zi==", "Zj==", "Zv==", "Z/==", "Zm9=", "Zm+=", "Zm/=", "Zm9vZh==", "Zm9vZm9=", "AB==", "AAB=",
	} {
		checkDecode(t, s, nil, api.ErrForm)
	}
}

// Each ending of two and of three signs: just those whose bits left over are nought are base64.
func TestDecodeBitsLeftOver(t *testing.T) {
	for x := range 1 << 12 {
		s := "Zm9v" + string([]byte{alphabet[x>>6], alphabet[x&63], '=', '='})
		if x&15 == 0 {
			checkDecode(t, s, []byte{'f', 'o', 'o', byte(x >> 4)}, api.OK)
		} else {
			checkDecode(t, s, nil, api.ErrForm)
		}
	}
	for x := range 1 << 18 {
		s := string([]byte{alphabet[x>>12], alphabet[x>>6&63], alphabet[x&63], '='})
		if x&3 == 0 {
			checkDecode(t, s, []byte{byte(x >> 10), byte(x >> 2)}, api.OK)
		} else {
			checkDecode(t, s, nil, api.ErrForm)
		}
	}
}

// shortTexts hands each text of up to n of the bytes to try.
func shortTexts(n int, from string, try func(s string)) {
	var grow func(s string)
	grow = func(s string) {
		try(s)
		if len(s) < n {
			for i := range len(from) {
				grow(s + from[i:i+1])
			}
		}
	}
	grow("")
}

// All short texts of a few signs, fillers, blanks and a wrong sign, against the plain words of the promise.
func TestDecodeOfAllShortTexts(t *testing.T) {
	shortTexts(7, "AQg=\n-", func(s string) {
		rest := strings.ReplaceAll(s, "\n", "")
		want, err := base64.StdEncoding.Strict().DecodeString(rest)
		switch {
		case strings.Contains(s, "-"):
			checkDecode(t, s, nil, api.ErrChar)
		case err != nil || base64.StdEncoding.EncodeToString(want) != rest:
			checkDecode(t, s, nil, api.ErrForm)
		default:
			checkDecode(t, s, want, api.OK)
		}
	})
}

func TestFold(t *testing.T) {
	for _, x := range []struct {
		s    string
		n    int
		want string
	}{
		{"", 1, ""},
		{"", 0, ""},
		{"", -1, ""},
		{"", math.MaxInt, ""},
		{"a", 1, "a"},
		{"ab", 1, "a\nb"},
		{"abcdef", 1, "a\nb\nc\nd\ne\nf"},
		{"abcdef", 2, "ab\ncd\nef"},
		{"abcdef", 3, "abc\ndef"},
		{"abcdef", 4, "abcd\nef"},
		{"abcdef", 5, "abcde\nf"},
		{"abcdef", 6, "abcdef"},
		{"abcdef", 7, "abcdef"},
		{"abcdef", math.MaxInt, "abcdef"},
		{"abcdef", math.MaxInt - 3, "abcdef"},
		{"abcdef", 0, "abcdef"},
		{"abcdef", -1, "abcdef"},
		{"abcdef", math.MinInt, "abcdef"},
		{"é\xFF", 1, "\xC3\n\xA9\n\xFF"},
		{"\n\n\n", 2, "\n\n\n\n"},
		{"a\nb\r c", 2, "a\n\nb\r\n c"},
		{"a\x00b", 2, "a\x00\nb"},
	} {
		if s := Fold(x.s, x.n); s != x.want {
			t.Errorf("P2.2: Fold(%q, %d): %q, not %q", x.s, x.n, s, x.want)
		}
	}
}

// Each length of text with each n around it, byte by byte.
func TestFoldOfEachLength(t *testing.T) {
	long := strings.Repeat("abcdefghijklmnopqrstuvwxyz", 3)
	for size := range len(long) {
		for n := 1; n < size+3; n++ {
			var want []byte
			for i := range size {
				want = append(want, long[i])
				if (i+1)%n == 0 && i+1 < size {
					want = append(want, 0xA)
				}
			}
			if s := Fold(long[:size], n); s != string(want) {
				t.Fatalf("P2.2: Fold of %d bytes at %d: %q", size, n, s)
			}
		}
	}
}

func TestHex(t *testing.T) {
	if s := Hex([]byte{0xFF, 0x0A}); s != "ff0a" {
		t.Errorf("P2.3: Hex(FF0A): %q", s)
	}
	if s := Hex(nil); s != "" {
		t.Errorf("P2.3: Hex(nil): %q", s)
	}
	manyBytes(func(b []byte) {
		s := Hex(b)
		if want := hex.EncodeToString(b); s != want {
			t.Fatalf("P2.3: Hex(%X): %q, not %q", b, s, want)
		}
		x, e := Unhex(s)
		if e != api.OK || !bytes.Equal(x, b) {
			t.Fatalf("P2.4: Unhex of Hex(%X): %X, %d", b, x, e)
		}
		checkUnhex(t, strings.ToUpper(s), b, api.OK)
	})
}

// A byte at any place is a digit, or an ErrChar, whether the count of bytes is odd or not.
func TestUnhexOfEachByte(t *testing.T) {
	for x := range 1 << 8 {
		c := string([]byte{byte(x)})
		isDigit := strings.Contains("0123456789abcdefABCDEF", c)
		for _, s := range []string{c, c + "0", "0" + c, "00" + c, c + "00", "0" + c + "0", "0" + c + "00", "000" + c} {
			b, e := Unhex(s)
			switch {
			case !isDigit:
				checkUnhex(t, s, nil, api.ErrChar)
			case len(s)%2 != 0:
				checkUnhex(t, s, nil, api.ErrForm)
			case e != api.OK || len(b) != len(s)/2:
				t.Errorf("P2.3: Unhex(%q): %X, %d", s, b, e)
			}
		}
	}
}

func TestUnhexOfEachPair(t *testing.T) {
	const small, great = "0123456789abcdef", "0123456789ABCDEF"
	for x := range 1 << 8 {
		for _, first := range []string{small, great} {
			for _, second := range []string{small, great} {
				checkUnhex(t, string([]byte{first[x>>4], second[x&15]}), []byte{byte(x)}, api.OK)
			}
		}
	}
}

func TestUnhexErrors(t *testing.T) {
	for s, want := range map[string]api.Errno{
		"f": api.ErrForm, "abc": api.ErrForm, "0000000": api.ErrForm,
		" ": api.ErrChar, "ab ": api.ErrChar, " ab": api.ErrChar, "a b": api.ErrChar, "ab\n": api.ErrChar,
		"0x": api.ErrChar, "fg": api.ErrChar, "abg": api.ErrChar, "gabc": api.ErrChar, "abcG": api.ErrChar,
		"/0": api.ErrChar, ":0": api.ErrChar, "@0": api.ErrChar, "`0": api.ErrChar, "-1": api.ErrChar,
		"é": api.ErrChar, "１２": api.ErrChar, "\xFF": api.ErrChar, "a\uFFFD": api.ErrChar, "\x00\x00": api.ErrChar,
		"\U00000130\U00000131": api.ErrChar, "\u0100\u0161": api.ErrChar,
	} {
		checkUnhex(t, s, nil, want)
	}
	checkUnhex(t, "", nil, api.OK)
}

// What is handed in is neither changed nor kept, its spare room included.
func TestArgumentsAreLeft(t *testing.T) {
	room := []byte("foobar, and spare room")
	was := bytes.Clone(room)
	b := room[:4]
	sixtyFour, digits := Encode(b), Hex(b)
	if !bytes.Equal(room, was) {
		t.Errorf("P2.4: an argument was changed: %q", room)
	}
	clear(room)
	if sixtyFour != "Zm9vYg==" || digits != "666f6f62" {
		t.Errorf("P2.4: an argument was kept: %q, %q", sixtyFour, digits)
	}
}

func TestDecodedBytesAreNew(t *testing.T) {
	for _, decode := range []func() ([]byte, api.Errno){
		func() ([]byte, api.Errno) { return Decode("Zm9vYmFy") },
		func() ([]byte, api.Errno) { return Unhex("666f6f626172") },
	} {
		first, _ := decode()
		clear(first[:cap(first)])
		if second, e := decode(); e != api.OK || string(second) != "foobar" {
			t.Errorf("P2.4: an answer is not new: %q, %d", second, e)
		}
	}
}

func TestFoldedTextIsNew(t *testing.T) {
	s := strings.Repeat("x", 100)
	for _, n := range []int{-1, 0, 7, 100, 101, math.MaxInt} {
		x := Fold(s, n)
		first, at := uintptr(unsafe.Pointer(unsafe.StringData(s))), uintptr(unsafe.Pointer(unsafe.StringData(x)))
		if first <= at && at < first+uintptr(len(s)) {
			t.Errorf("P2.4: Fold at %d answers its argument's memory", n)
		}
	}
}

// A going through in pieces may be broken off.
func TestPiecesBreakOff(t *testing.T) {
	for piece := range pieces("abcdef", 4) {
		if piece != "abcd" {
			t.Errorf("the first piece is %q", piece)
		}
		break
	}
}

// Long texts are gone through once or a few times, not once for each sign.
func TestLongTexts(t *testing.T) {
	b := bytes.Repeat([]byte("lanyard"), 1<<18)
	x, e := Decode(Fold(Encode(b), 1))
	if e != api.OK || !bytes.Equal(x, b) {
		t.Errorf("P2.4: a long text is decoded otherwise: %d bytes, %d", len(x), e)
	}
	x, e = Unhex(Hex(b))
	if e != api.OK || !bytes.Equal(x, b) {
		t.Errorf("P2.4: long digits are read otherwise: %d bytes, %d", len(x), e)
	}
}
