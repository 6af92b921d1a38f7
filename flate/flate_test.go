package flate

import (
	"bytes"
	stdflate "compress/flate"
	"fmt"
	"io"
	"math"
	"math/rand"
	"slices"
	"strings"
	"testing"
	"time"

	"lanyard/api"
)

// checkInflate holds Inflate against what is wanted.
func checkInflate(t *testing.T, promise string, b []byte, most int, want []byte, wantTook int, wantErr api.Errno) {
	t.Helper()
	x, n, e := Inflate(b, most)
	if e != wantErr || n != wantTook || !bytes.Equal(x, want) {
		t.Fatalf("%s: Inflate(%.60x.. of %d bytes, %d): %.40q.. of %d bytes, %d, %d, not %.40q.. of %d bytes, %d, %d", promise, b, len(b), most, x, len(x), n, e, want, len(want), wantTook, wantErr)
	}
}

// checkPlain holds Inflate against the chapter's plain words.
func checkPlain(t *testing.T, b []byte, most int) api.Errno {
	t.Helper()
	want, took, fault := plainInflate(b, most)
	checkInflate(t, "P4.2", b, most, want, took, fault)
	return fault
}

// checkFault holds the fault of bits against the one that is wanted.
func checkFault(t *testing.T, what, bits string, most int, want api.Errno) {
	t.Helper()
	if x, n, e := Inflate(packed(bits), most); e != want || n != 0 || len(x) != 0 {
		t.Errorf("P4.2: %s: %q, %d, %d, not %d", what, x, n, e, want)
	}
}

// inflatedByLibrary is what Go's library reads, and how many bytes that took.
func inflatedByLibrary(t *testing.T, b []byte) ([]byte, int) {
	t.Helper()
	from := bytes.NewReader(b)
	x, err := io.ReadAll(stdflate.NewReader(from))
	if err != nil {
		t.Fatalf("P4.1: the library can't read it: %v", err)
	}
	return x, len(b) - from.Len()
}

// checkBothWays holds that both forms of b are read back, by this package and by the library, whatever stands behind.
func checkBothWays(t *testing.T, b []byte) {
	t.Helper()
	forms := [][]byte{Stored(b)}
	if len(b) <= api.MaxText {
		d, e := Deflate(b)
		if e != api.OK {
			t.Fatalf("P4.1: Deflate of %d bytes: %d", len(b), e)
		}
		forms = append(forms, d)
	}
	for _, d := range forms {
		for _, behind := range []string{"", "\x00", "\xff\xff\xff", "\x03\x00"} {
			checkInflate(t, "P4.3", append(bytes.Clone(d), behind...), len(b), b, len(d), api.OK)
		}
		if x, n := inflatedByLibrary(t, append(bytes.Clone(d), 1, 2, 3)); !bytes.Equal(x, b) || n != len(d) {
			t.Fatalf("P4.1: the library reads %d bytes of %d, not %d of %d", len(x), n, len(b), len(d))
		}
	}
}

// fewLetters is a text of so many bytes out of so few letters.
func fewLetters(r *rand.Rand, n, letters int) []byte {
	b := make([]byte, n)
	for i := range b {
		b[i] = byte('a' + r.Intn(letters))
	}
	return b
}

// unlike is a text in which no three bytes stand twice.
func unlike(t *testing.T, n int) []byte {
	t.Helper()
	b := make([]byte, n)
	rand.New(rand.NewSource(10)).Read(b)
	for i := range n - 2 {
		if bytes.Count(b, b[i:i+3]) > 1 {
			t.Fatalf("the bytes at %d stand twice", i)
		}
	}
	return b
}

// asBytes are the bits of a text's bytes by the fixed codes.
func asBytes(b []byte) string {
	var bits strings.Builder
	for _, c := range b {
		bits.WriteString(fixedBits(int(c)))
	}
	return bits.String()
}

func TestExamples(t *testing.T) {
	if s := Stored([]byte("a")); string(s) != "\x01\x01\x00\xfe\xffa" {
		t.Errorf("P4.1: Stored: %x", s)
	}
	for s, want := range map[string]string{"": "\x03\x00", "aaaaa": "\x4b\x04\x01\x00", "a": "\x4b\x04\x00"} {
		if d, e := Deflate([]byte(s)); string(d) != want || e != api.OK {
			t.Errorf("P4.1: Deflate(%q): %x, %d", s, d, e)
		}
	}
	if s := Stored(nil); string(s) != "\x01\x00\x00\xff\xff" {
		t.Errorf("P4.1: Stored of none: %x", s)
	}
}

func TestStoredBlocks(t *testing.T) {
	r := rand.New(rand.NewSource(1))
	for _, n := range []int{0, 1, 2, 255, 256, 65534, 65535, 65536, 65537, 131069, 131070, 131071, 196605, 200000} {
		b := make([]byte, n)
		r.Read(b)
		var want []byte
		for rest := b; ; rest = rest[65535:] {
			size, last := len(rest), byte(1)
			if size > 65535 {
				size, last = 65535, 0
			}
			want = append(want, last, byte(size), byte(size>>8), ^byte(size), ^byte(size>>8))
			want = append(want, rest[:size]...)
			if last == 1 {
				break
			}
		}
		if got := Stored(b); !bytes.Equal(got, want) {
			t.Errorf("P4.1: Stored of %d bytes: %d bytes, not %d", n, len(got), len(want))
		}
		checkBothWays(t, b)
	}
}

func checkDeflate(t *testing.T, b []byte) {
	t.Helper()
	got, e := Deflate(b)
	if want := plainDeflate(b); e != api.OK || !bytes.Equal(got, want) {
		t.Fatalf("P4.1: Deflate(%.60q.. of %d bytes): %.60x.., %d, not %.60x..", b, len(b), got, e, want)
	}
	checkBothWays(t, b)
}

func TestDeflateShortTexts(t *testing.T) {
	for x := range 256 {
		checkDeflate(t, []byte{byte(x)})
	}
	for n := range 11 {
		for x := range 1 << n {
			b := make([]byte, n)
			for i := range b {
				b[i] = byte('a' + x>>i&1)
			}
			checkDeflate(t, b)
		}
	}
	r := rand.New(rand.NewSource(2))
	for range 400 {
		checkDeflate(t, fewLetters(r, r.Intn(900), 1+r.Intn(6)))
	}
}

func TestDeflateRunsOfOneByte(t *testing.T) {
	for n := 1; n < 800; n++ {
		b := bytes.Repeat([]byte{'x'}, n)
		checkDeflate(t, b)
		if n < 4 || n > 259 {
			continue
		}
		want := packed("110" + fixedBits('x') + fixedCopy(n-1, 1) + fixedBits(256))
		if got, _ := Deflate(b); !bytes.Equal(got, want) {
			t.Errorf("P4.1: a run of %d: %x, not %x", n, got, want)
		}
	}
}

func TestDeflateCopiesOfEachLengthAndDistance(t *testing.T) {
	filler := unlike(t, 600)
	for _, size := range []int{2, 3, 4, 10, 11, 12, 13, 18, 19, 34, 35, 66, 67, 130, 131, 226, 227, 256, 257, 258, 259, 300} {
		for _, far := range []int{size, size + 1, 300, 384, 385, 500, 511, 512, 513, 514} {
			if far < size {
				continue
			}
			b := append(bytes.Clone(filler[:far]), filler[:size]...)
			bits := "110" + asBytes(filler[:far])
			rest := filler[:size]
			for len(rest) >= 3 && far <= 512 {
				part := min(258, len(rest))
				bits += fixedCopy(part, far)
				rest = rest[part:]
			}
			// The byte behind is one with which the copy doesn't go on.
			stop := filler[0] ^ 1
			if stop == filler[size] {
				stop ^= 2
			}
			bits += asBytes(rest) + fixedBits(int(stop)) + fixedBits(256)
			got, _ := Deflate(append(b, stop))
			if want := packed(bits); !bytes.Equal(got, want) {
				t.Errorf("P4.1: %d bytes at distance %d: %x, not %x", size, far, got, want)
			}
			checkBothWays(t, append(b, stop))
		}
	}
}

func TestDeflateTakesTheGreatestAtTheLeastDistance(t *testing.T) {
	for _, c := range []struct {
		text string
		want string
	}{
		{"abcXabcYabc", fixedCopy(3, 4)},
		{"abcdXabcYabcd", fixedCopy(4, 9)},
		{"abcdXabcdYabcd", fixedCopy(4, 5)},
	} {
		d, _ := Deflate([]byte(c.text))
		if bits := unpacked(d); !strings.Contains(bits, c.want+fixedBits(256)) {
			t.Errorf("P4.1: %q: %s has no %s at its end", c.text, bits, c.want)
		}
		checkDeflate(t, []byte(c.text))
	}
}

func TestDeflateLimit(t *testing.T) {
	r := rand.New(rand.NewSource(3))
	for _, n := range []int{api.MaxText - 1, api.MaxText} {
		for _, letters := range []int{1, 2, 4, 20} {
			checkBothWays(t, fewLetters(r, n, letters))
		}
		b := make([]byte, n)
		r.Read(b)
		checkBothWays(t, b)
	}
	checkDeflate(t, fewLetters(r, 9000, 12))
	for _, n := range []int{api.MaxText + 1, api.MaxText + 2, 200000} {
		if d, e := Deflate(make([]byte, n)); e != api.ErrLong || len(d) != 0 {
			t.Errorf("P4.1: Deflate of %d bytes: %d bytes, %d", n, len(d), e)
		}
	}
}

func TestInflateMost(t *testing.T) {
	for _, most := range []int{-1, -2, math.MinInt} {
		for _, b := range []string{"", "\x03\x00", "\x07", "\x01\x01\x00\xfe\xffa"} {
			checkInflate(t, "P4.2", []byte(b), most, nil, 0, api.ErrArg)
		}
	}
	for _, text := range []string{"", "a", "abcdef", "aaaaaaaaaaaaaaaaaaaaaaaaaaa", strings.Repeat("lanyard ", 100)} {
		d, _ := Deflate([]byte(text))
		for _, b := range [][]byte{d, Stored([]byte(text))} {
			for most := range len(text) {
				checkInflate(t, "P4.2", b, most, nil, 0, api.ErrLong)
			}
			for _, most := range []int{len(text), len(text) + 1, 1 << 40, math.MaxInt} {
				checkInflate(t, "P4.2", b, most, []byte(text), len(b), api.OK)
			}
		}
	}
}

func TestInflateCutAtEachByte(t *testing.T) {
	text := []byte(strings.Repeat("one, two, three and four; ", 30))
	d, _ := Deflate(text)
	for _, b := range [][]byte{d, Stored(text), byLibrary(t, 9, text), packed(manyBlocks)} {
		if _, _, e := Inflate(b, 1<<20); e != api.OK {
			t.Fatalf("P4.2: not cut: %d", e)
		}
		for n := range b {
			checkInflate(t, "P4.2", b[:n], 1<<20, nil, 0, api.ErrShort)
		}
	}
}

// byLibrary is the texts deflated by Go's library, each in blocks of its own.
func byLibrary(t *testing.T, level int, texts ...[]byte) []byte {
	t.Helper()
	var out bytes.Buffer
	w, err := stdflate.NewWriter(&out, level)
	if err != nil {
		t.Fatal(err)
	}
	for i, text := range texts {
		if i > 0 {
			w.Flush()
		}
		w.Write(text)
	}
	w.Close()
	return out.Bytes()
}

func TestInflateWhatTheLibraryWrites(t *testing.T) {
	r := rand.New(rand.NewSource(4))
	for range 300 {
		var texts [][]byte
		for range 1 + r.Intn(4) {
			switch r.Intn(3) {
			case 0:
				texts = append(texts, fewLetters(r, r.Intn(3000), 1+r.Intn(60)))
			case 1:
				b := make([]byte, r.Intn(3000))
				r.Read(b)
				texts = append(texts, b)
			default:
				texts = append(texts, bytes.Repeat(fewLetters(r, 1+r.Intn(90), 9), r.Intn(200)))
			}
		}
		b := byLibrary(t, -2+r.Intn(12), texts...)
		text := bytes.Join(texts, nil)
		checkInflate(t, "P4.2", b, len(text), text, len(b), api.OK)
		checkInflate(t, "P4.2", append(b, 1, 2, 3), len(text)+9, text, len(b), api.OK)
		if len(text) > 0 {
			checkInflate(t, "P4.2", b, len(text)-1, nil, 0, api.ErrLong)
		}
	}
	long := fewLetters(r, 300000, 30)
	b := byLibrary(t, 6, long)
	checkInflate(t, "P4.2", b, len(long), long, len(b), api.OK)
}

func TestInflateEachFixedSign(t *testing.T) {
	for sign := range 256 {
		bits := "110" + fixedBits(sign) + fixedBits(256)
		checkInflate(t, "P4.2", packed(bits), 1, []byte{byte(sign)}, (len(bits)+7)/8, api.OK)
	}
	for _, sign := range []int{286, 287} {
		checkFault(t, "a sign that is none", "110"+fixedBits(sign), 9, api.ErrForm)
		checkFault(t, "a sign that is none, behind a byte", "110"+fixedBits('a')+fixedBits(sign)+low(0, 5)+fixedBits(256), 0, api.ErrLong)
		checkFault(t, "a sign that is none, behind a byte", "110"+fixedBits('a')+fixedBits(sign)+low(0, 5)+fixedBits(256), 1, api.ErrForm)
	}
}

func TestInflateEachLength(t *testing.T) {
	for i, x := range lengthRows {
		for more := range 1 << x.more {
			bits := "110" + fixedBits('z') + fixedBits(257+i) + low(more, x.more) + high(0, 5) + fixedBits(256)
			text := bytes.Repeat([]byte{'z'}, 1+x.first+more)
			checkInflate(t, "P4.2", packed(bits), len(text), text, (len(bits)+7)/8, api.OK)
			checkInflate(t, "P4.2", packed(bits), len(text)-1, nil, 0, api.ErrLong)
		}
	}
	for length := 3; length <= 258; length++ {
		bits := "110" + fixedBits('z') + fixedCopy(length, 1) + fixedBits(256)
		text := bytes.Repeat([]byte{'z'}, 1+length)
		checkInflate(t, "P4.2", packed(bits), len(text), text, (len(bits)+7)/8, api.OK)
	}
}

func TestInflateEachDistance(t *testing.T) {
	r := rand.New(rand.NewSource(5))
	text := make([]byte, 32768)
	r.Read(text)
	head := Stored(text)
	head[0] = 0
	check := func(i, more int) {
		x := distanceRows[i]
		far := x.first + more
		bits := "110" + fixedBits(258) + high(i, 5) + low(more, x.more) + fixedBits(256)
		want := bytes.Clone(text)
		for range 4 {
			want = append(want, want[len(want)-far])
		}
		b := append(bytes.Clone(head), packed(bits)...)
		checkInflate(t, "P4.2", b, len(want), want, len(b), api.OK)
		// One byte fewer stands ahead than the distance asks for.
		short := Stored(text[:far-1])
		short[0] = 0
		checkInflate(t, "P4.2", append(short, packed(bits)...), 1<<20, nil, 0, api.ErrForm)
		exact := Stored(text[:far])
		exact[0] = 0
		if _, _, e := Inflate(append(exact, packed(bits)...), 1<<20); e != api.OK {
			t.Fatalf("P4.2: distance %d of %d bytes: %d", far, far, e)
		}
	}
	for i, x := range distanceRows {
		last := 1<<x.more - 1
		for _, more := range []int{0, last / 3, last / 2, last} {
			check(i, more)
		}
	}
	for _, i := range []int{30, 31} {
		b := append(bytes.Clone(head), packed("110"+fixedBits(258)+high(i, 5))...)
		checkInflate(t, "P4.2", b, 1<<20, nil, 0, api.ErrForm)
	}
}

func TestInflateCopiesThatReachIntoThemselves(t *testing.T) {
	for far := 1; far <= 12; far++ {
		for _, length := range []int{3, 4, far, far + 1, 2*far + 1, 100, 257, 258} {
			if length < 3 {
				continue
			}
			text := []byte("abcdefghijkl")[:far]
			bits := "110"
			for _, c := range text {
				bits += fixedBits(int(c))
			}
			bits += fixedCopy(length, far) + fixedBits(256)
			want := bytes.Repeat(text, 300)[:far+length]
			checkInflate(t, "P4.2", packed(bits), len(want), want, (len(bits)+7)/8, api.OK)
		}
	}
}

// ownLengths are lengths of lengths by which each of the nineteen signs has a code.
var ownLengths = []int{4, 4, 4, 4, 4, 4, 4, 4, 4, 4, 4, 4, 4, 5, 5, 5, 5, 5, 5}

// ownStart is the beginning of a block of kind 2 with such counts and such lengths of lengths, all of them told.
func ownStart(last string, signs, distances int, of []int) string {
	bits := last + "01" + low(signs-257, 5) + low(distances-1, 5) + low(15, 4)
	for _, sign := range []int{16, 17, 18, 0, 8, 7, 9, 6, 10, 5, 11, 4, 12, 3, 13, 2, 14, 1, 15} {
		bits += low(of[sign], 3)
	}
	return bits
}

// told are lengths, one by one, by the codes of ownLengths.
func told(lengths ...int) string {
	book, bits := codeBook(ownLengths), ""
	for _, length := range lengths {
		bits += codeOf(book, length)
	}
	return bits
}

// lengthsWith are so many lengths, those of some signs set.
func lengthsWith(n int, set map[int]int) []int {
	out := make([]int, n)
	for sign, length := range set {
		out[sign] = length
	}
	return out
}

// ownBlock is the beginning of a block of kind 2 up to its signs, with such lengths of signs and distances.
func ownBlock(last string, signs, distances []int) string {
	return ownStart(last, len(signs), len(distances), ownLengths) + told(signs...) + told(distances...)
}

// manyBlocks are blocks of each kind, some empty, one behind the other.
var manyBlocks = func() string {
	signs := lengthsWith(260, map[int]int{'a': 2, 'b': 2, 256: 2, 257: 3, 259: 3})
	book := codeBook(signs)
	own := func(last string) string {
		bits := ownBlock(last, signs, []int{1, 1})
		for _, sign := range []int{'a', 'b'} {
			bits += codeOf(book, sign)
		}
		return bits + codeOf(book, 257) + "1" + codeOf(book, 259) + "0" + codeOf(book, 256)
	}
	bits := "010" + fixedBits('x') + fixedBits(256) + own("0") + "010" + fixedBits(256) + own("0") + "000"
	for len(bits)%8 != 0 {
		bits += "1"
	}
	bits += low(2, 16) + low(65535-2, 16) + low('s', 8) + low('t', 8) + "000" + "01101" + low(0, 16) + low(65535, 16) + own("0")
	return bits + "110" + fixedCopy(5, 16) + fixedBits(256)
}()

func TestInflateManyBlocks(t *testing.T) {
	part := "abababbbbbb"[:2] + "aba" + "aaaaa"
	text := "x" + part + part + "st" + part
	text += text[len(text)-16:][:5]
	b := packed(manyBlocks)
	checkInflate(t, "P4.2", b, len(text), []byte(text), len(b), api.OK)
	checkInflate(t, "P4.2", append(b, 0xff), 1000, []byte(text), len(b), api.OK)
	for most := range len(text) {
		checkInflate(t, "P4.2", b, most, nil, 0, api.ErrLong)
	}
	for n := range 9 {
		s := strings.Repeat("010"+fixedBits(256), n) + "110" + fixedBits(256)
		checkInflate(t, "P4.2", packed(s), 0, nil, (len(s)+7)/8, api.OK)
	}
}

func TestInflateTheLastByteOnly(t *testing.T) {
	// Bits behind the end, within its byte, count for nothing.
	for n := range 8 {
		bits := "110" + strings.Repeat(fixedBits(200), n) + fixedBits(256)
		for _, fill := range []string{"0", "1"} {
			s := bits
			for len(s)%8 != 0 {
				s += fill
			}
			want := bytes.Repeat([]byte{200}, n)
			checkInflate(t, "P4.2", packed(s), n, want, len(s)/8, api.OK)
			checkInflate(t, "P4.2", packed(s+"11111111"), n, want, len(s)/8, api.OK)
		}
	}
	// So do those up to a stored block's length.
	for _, fill := range []string{"00000", "11111", "01010"} {
		b := packed("100" + fill + low(1, 16) + low(65534, 16) + low('q', 8))
		checkInflate(t, "P4.2", b, 1, []byte("q"), 6, api.OK)
	}
}

func TestInflateStoredFaults(t *testing.T) {
	for _, c := range []struct {
		b    string
		most int
		want api.Errno
	}{
		{"", 9, api.ErrShort},
		{"\x01", 9, api.ErrShort},
		{"\x01\x01\x00", 9, api.ErrShort},
		{"\x01\x01\x00\x00", 9, api.ErrShort},
		{"\x01\x01\x00\xfe\xff", 9, api.ErrShort},
		{"\x01\x02\x00\xfd\xffa", 9, api.ErrShort},
		{"\x01\x02\x00\xfd\xffa", 2, api.ErrShort},
		{"\x01\x02\x00\xfd\xffa", 1, api.ErrLong},
		{"\x01\x02\x00\xfd\xff", 1, api.ErrLong},
		{"\x01\x02\x00\xfd\xfe", 1, api.ErrForm},
		{"\x01\x02\x00\xfc\xffab", 9, api.ErrForm},
		{"\x01\x02\x00\x02\x00ab", 9, api.ErrForm},
		{"\x01\x00\x00\x00\x00", 0, api.ErrForm},
		{"\x01\x00\x00\xff\xfe", 0, api.ErrForm},
		{"\x00\x01\x00\xfe\xffa", 9, api.ErrShort},
		{"\x00\x01\x00\xfe\xffa\x07", 9, api.ErrForm},
		{"\x00\x01\x00\xfe\xffa\x01\x01\x00\xfe\xff", 1, api.ErrLong},
		{"\x01\xff\xff\x00\x00", 65534, api.ErrLong},
		{"\x01\xff\xff\x00\x00", 65535, api.ErrShort},
	} {
		checkInflate(t, "P4.2", []byte(c.b), c.most, nil, 0, c.want)
	}
}

func TestInflateKindThree(t *testing.T) {
	for x := range 256 {
		want := api.ErrShort
		if x>>1&3 == 3 {
			want = api.ErrForm
		}
		if _, _, e := Inflate([]byte{byte(x)}, 100); e != want {
			t.Errorf("P4.2: %02x: %d, not %d", x, e, want)
		}
	}
	checkFault(t, "behind another block", "010"+fixedBits('a')+fixedBits(256)+"011", 1, api.ErrForm)
	checkFault(t, "behind one that is too long", "010"+fixedBits('a')+fixedBits(256)+"011", 0, api.ErrLong)
}

func TestInflateCounts(t *testing.T) {
	zeros := strings.Repeat("0", 400)
	for signs := range 32 {
		for distances := range 32 {
			bits := "101" + low(signs, 5) + low(distances, 5) + low(15, 4)
			lengths := ""
			for _, sign := range []int{16, 17, 18, 0, 8, 7, 9, 6, 10, 5, 11, 4, 12, 3, 13, 2, 14, 1, 15} {
				lengths += low(ownLengths[sign], 3)
			}
			if signs >= 30 || distances >= 30 {
				// Seventeen bits tell the counts; all of them come ahead of the fault.
				checkFault(t, "counts", bits+zeros, 9, api.ErrForm)
				checkInflate(t, "P4.2", packed(bits)[:2], 9, nil, 0, api.ErrShort)
				checkInflate(t, "P4.2", packed(bits)[:3], 9, nil, 0, api.ErrForm)
				continue
			}
			all := lengthsWith(257+signs, map[int]int{'a': 2, 'b': 2, 256: 1})
			book := codeBook(all)
			good := bits + lengths + told(all...) + told(make([]int, distances+1)...) + codeOf(book, 'b') + codeOf(book, 256)
			checkInflate(t, "P4.2", packed(good), 1, []byte("b"), (len(good)+7)/8, api.OK)
		}
	}
}

func TestInflateFewLengthsOfLengths(t *testing.T) {
	order := []int{16, 17, 18, 0, 8, 7, 9, 6, 10, 5, 11, 4, 12, 3, 13, 2, 14, 1, 15}
	for given := 4; given <= 19; given++ {
		// Only 18 and the last that is told have codes.
		of := make([]int, 19)
		of[18], of[order[given-1]] = 1, 1
		bits := "101" + low(0, 5) + low(0, 5) + low(given-4, 4)
		for _, sign := range order[:given] {
			bits += low(of[sign], 3)
		}
		for _, more := range []string{"", strings.Repeat("1", 50), strings.Repeat("0", 300), strings.Repeat("01", 500)} {
			checkPlain(t, packed(bits+more), 100)
		}
	}
	// 18 has the code 1, the length 1 the code 0: bytes 0 and the end; given are all but the last one.
	bits := "101" + low(0, 5) + low(0, 5) + low(14, 4)
	for _, sign := range order[:18] {
		if sign == 1 || sign == 18 {
			bits += low(1, 3)
		} else {
			bits += low(0, 3)
		}
	}
	bits += "0" + "1" + low(127, 7) + "1" + low(255-138-11, 7) + "0" + "0" + "0" + "0" + "1"
	checkInflate(t, "P4.2", packed(bits), 2, []byte{0, 0}, (len(bits)+7)/8, api.OK)
}

func TestInflateCodesOfLengthsThatAreNotRight(t *testing.T) {
	for _, c := range []struct {
		what string
		set  map[int]int
	}{
		{"none", nil},
		{"one of two bits", map[int]int{5: 2}},
		{"one of seven bits", map[int]int{0: 7}},
		{"three of one bit", map[int]int{0: 1, 1: 1, 2: 1}},
		{"not all", map[int]int{0: 1, 1: 2}},
		{"too many", map[int]int{0: 1, 1: 2, 2: 2, 3: 7}},
		{"two of two bits", map[int]int{0: 2, 18: 2}},
	} {
		bits := ownStart("1", 257, 1, lengthsWith(19, c.set))
		checkFault(t, "lengths of lengths: "+c.what, bits+strings.Repeat("0", 600), 9, api.ErrForm)
		// They show as soon as all lengths of lengths are read.
		checkFault(t, "lengths of lengths, and no more: "+c.what, bits, 9, api.ErrForm)
		checkInflate(t, "P4.2", packed(bits)[:len(bits)/8], 9, nil, 0, api.ErrShort)
	}
	one := ownStart("1", 257, 1, lengthsWith(19, map[int]int{0: 1}))
	checkFault(t, "one code, and the bit that is none", one+"01", 9, api.ErrForm)
	checkFault(t, "one code, all lengths nought", one+strings.Repeat("0", 258), 9, api.ErrForm)
	eight := ownStart("1", 257, 1, lengthsWith(19, map[int]int{8: 1}))
	checkFault(t, "one code, all lengths eight", eight+strings.Repeat("0", 258)+strings.Repeat("0", 99), 9, api.ErrForm)
}

func TestInflateRuns(t *testing.T) {
	book := codeBook(ownLengths)
	run := func(sign, more int) string {
		return codeOf(book, sign) + low(more, map[int]int{16: 2, 17: 3, 18: 7}[sign])
	}
	start := ownStart("1", 258, 2, ownLengths)
	for sign, most := range map[int]int{16: 6, 17: 10, 18: 138} {
		least := map[int]int{16: 3, 17: 3, 18: 11}[sign]
		for n := least; n <= most; n++ {
			// 'a' on places that are noughts; the rest is told one by one.
			lengths := lengthsWith(258, map[int]int{0: 1, 256: 2, 257: 2})
			bits := start + told(1, 0) + run(sign, n-least) + told(lengths[2+n:]...) + told(1, 0)
			own := codeBook(lengths)
			bits += codeOf(own, 0) + codeOf(own, 257) + "0" + codeOf(own, 256)
			checkInflate(t, "P4.2", packed(bits), 4, make([]byte, 4), (len(bits)+7)/8, api.OK)
			// At the end there are just enough places, and one too few.
			tail := strings.Repeat("0", 40)
			for _, left := range []int{n, n - 1, n + 1} {
				lengths := make([]int, 260-left)
				bits := start + told(lengths...) + run(sign, n-least)
				checkPlain(t, packed(bits), 9)
				checkPlain(t, packed(bits+tail), 9)
				if left == n-1 {
					checkFault(t, "more lengths than places", bits, 9, api.ErrForm)
				}
			}
		}
	}
	checkFault(t, "16 with none ahead", start+run(16, 0)+strings.Repeat("0", 3000), 9, api.ErrForm)
	aligned := start + codeOf(book, 16)
	checkFault(t, "16 with none ahead, and no more", aligned, 9, api.ErrForm)
	// A length is taken again from the signs over to the distances: both distances have a code of two bits, and so have two more.
	lengths := lengthsWith(258, map[int]int{0: 1, 256: 2, 257: 2})
	bits := ownStart("1", 258, 4, ownLengths) + told(lengths...) + run(16, 1)
	own := codeBook(lengths)
	bits += codeOf(own, 0) + codeOf(own, 0) + codeOf(own, 0) + codeOf(own, 0) + codeOf(own, 257) + "11" + codeOf(own, 256)
	checkInflate(t, "P4.2", packed(bits), 7, make([]byte, 7), (len(bits)+7)/8, api.OK)
	// Behind noughts a 16 is noughts again.
	bits = start + told(1) + run(18, 0) + run(16, 3) + told(lengths[18:]...) + told(0, 0) + codeOf(own, 256)
	checkInflate(t, "P4.2", packed(bits), 0, nil, (len(bits)+7)/8, api.OK)
}

func TestInflateCodesOfSignsThatAreNotRight(t *testing.T) {
	for _, c := range []struct {
		what string
		set  map[int]int
		ok   bool
	}{
		{"right", map[int]int{'a': 1, 256: 1}, true},
		{"right, of fifteen bits", map[int]int{1: 1, 2: 2, 3: 3, 4: 4, 5: 5, 6: 6, 7: 7, 8: 8, 9: 9, 10: 10, 11: 11, 12: 12, 13: 13, 14: 14, 15: 15, 256: 15}, true},
		{"none", nil, false},
		{"only the end", map[int]int{256: 1}, false},
		{"no end", map[int]int{'a': 1, 'b': 1}, false},
		{"too few", map[int]int{'a': 2, 'b': 2, 256: 2}, false},
		{"too few by one of fifteen bits", map[int]int{1: 1, 2: 2, 3: 3, 4: 4, 5: 5, 6: 6, 7: 7, 8: 8, 9: 9, 10: 10, 11: 11, 12: 12, 13: 13, 14: 14, 256: 15}, false},
		{"too many", map[int]int{'a': 1, 'b': 1, 256: 1}, false},
		{"too many by one of fifteen bits", map[int]int{'a': 1, 'b': 15, 256: 1}, false},
	} {
		signs := lengthsWith(257, c.set)
		bits := ownBlock("1", signs, []int{0})
		if !c.ok {
			checkFault(t, "signs: "+c.what, bits+strings.Repeat("0", 99), 9, api.ErrForm)
			checkFault(t, "signs, and no more: "+c.what, bits, 9, api.ErrForm)
			continue
		}
		bits += codeOf(codeBook(signs), 256)
		checkInflate(t, "P4.2", packed(bits), 0, nil, (len(bits)+7)/8, api.OK)
	}
}

func TestInflateCodesOfDistances(t *testing.T) {
	signs := lengthsWith(258, map[int]int{'a': 1, 256: 2, 257: 2})
	book := codeBook(signs)
	for _, c := range []struct {
		what      string
		distances []int
		ok        bool
	}{
		{"none", []int{0}, true},
		{"none of thirty", make([]int, 30), true},
		{"one", []int{1}, true},
		{"one of thirty", lengthsWith(30, map[int]int{29: 1}), true},
		{"two", []int{1, 1}, true},
		{"three", []int{1, 2, 2}, true},
		{"one of two bits", []int{2}, false},
		{"one of fifteen bits", []int{0, 15}, false},
		{"two of two bits", []int{2, 2}, false},
		{"one of one bit and one of two", []int{1, 2}, false},
		{"too many", []int{1, 1, 1}, false},
		{"too many by one of fifteen bits", []int{1, 1, 15}, false},
	} {
		bits := ownBlock("1", signs, c.distances)
		if !c.ok {
			checkFault(t, "distances: "+c.what, bits+strings.Repeat("0", 99), 9, api.ErrForm)
			checkFault(t, "distances, and no more: "+c.what, bits, 9, api.ErrForm)
			continue
		}
		good := bits + codeOf(book, 'a') + codeOf(book, 256)
		checkInflate(t, "P4.2", packed(good), 1, []byte("a"), (len(good)+7)/8, api.OK)
	}
	one := ownBlock("1", signs, []int{1}) + codeOf(book, 'a') + codeOf(book, 257)
	good := one + "0" + codeOf(book, 256)
	checkInflate(t, "P4.2", packed(good), 4, []byte("aaaa"), (len(good)+7)/8, api.OK)
	checkFault(t, "a distance without a code", one+"1", 4, api.ErrForm)
	checkFault(t, "a distance without a code, ahead of ErrLong", one+"1", 1, api.ErrForm)
	none := ownBlock("1", signs, []int{0}) + codeOf(book, 'a') + codeOf(book, 257)
	checkFault(t, "no distance has a code", none+"0"+codeOf(book, 256), 4, api.ErrForm)
}

// TestInflateNoDistanceAtTheEnd: where no distance has a code, none begins with the bits so far even ahead of the first one.
func TestInflateNoDistanceAtTheEnd(t *testing.T) {
	signs := lengthsWith(258, map[int]int{'a': 1, 256: 2, 257: 2})
	book := codeBook(signs)
	for n := range 8 {
		bits := ownBlock("1", signs, []int{0}) + strings.Repeat(codeOf(book, 'a'), n) + codeOf(book, 257)
		checkFault(t, fmt.Sprintf("no distance has a code, behind %d bytes", n), bits, 9, api.ErrForm)
		single := ownBlock("1", signs, []int{1}) + strings.Repeat(codeOf(book, 'a'), n) + codeOf(book, 257)
		if len(single)%8 == 0 {
			checkFault(t, "one distance has a code, and nothing comes", single, 9, api.ErrShort)
		}
	}
}

func TestInflateOrderOfFaults(t *testing.T) {
	a := fixedBits('a')
	for _, c := range []struct {
		what, bits string
		most       int
		want       api.Errno
	}{
		{"a copy at the beginning", "110" + fixedCopy(3, 1), 9, api.ErrForm},
		{"a copy at the beginning, too long", "110" + fixedCopy(3, 1), 0, api.ErrForm},
		{"a copy too far back, too long", "110" + a + fixedCopy(258, 2), 1, api.ErrForm},
		{"a copy too long", "110" + a + fixedCopy(3, 1), 3, api.ErrLong},
		{"a copy too long, then kind 3", "010" + a + fixedCopy(3, 1) + fixedBits(256) + "111", 3, api.ErrLong},
		{"a copy, then kind 3", "010" + a + fixedCopy(3, 1) + fixedBits(256) + "111", 4, api.ErrForm},
		{"a byte too long, then a sign that is none", "110" + a + a + fixedBits(287), 1, api.ErrLong},
		{"a sign that is none, then a byte too long", "110" + a + fixedBits(286) + a + a, 1, api.ErrForm},
		{"a distance that is none, too long", "110" + a + fixedBits(257) + high(30, 5), 0, api.ErrLong},
		{"a distance that is none, ahead of a copy too long", "110" + a + fixedBits(257) + high(31, 5), 1, api.ErrForm},
	} {
		checkFault(t, c.what, c.bits, c.most, c.want)
		checkPlain(t, packed(c.bits), c.most)
	}
	// The bits of a distance come ahead of its fault: cut within them, the text is too short.
	for d, x := range distanceRows {
		bits := "110" + fixedBits(257) + high(d, 5) + low(0, x.more)
		for cut := range len(packed(bits)) {
			checkPlain(t, packed(bits)[:cut], 9)
		}
		checkFault(t, "a distance beyond the beginning", bits, 9, api.ErrForm)
	}
}

// streams are good streams of all kinds, for faults to be put in.
func streams(t *testing.T) [][]byte {
	r := rand.New(rand.NewSource(6))
	text := []byte(strings.Repeat("<saml:Assertion ID=\"_1\">", 4))
	d, _ := Deflate(text)
	return [][]byte{
		d, Stored(text), packed(manyBlocks),
		byLibrary(t, 9, fewLetters(r, 120, 30)),
		byLibrary(t, 9, fewLetters(r, 300, 3), fewLetters(r, 40, 2)),
		byLibrary(t, stdflate.HuffmanOnly, fewLetters(r, 90, 20)),
		packed(ownBlock("1", lengthsWith(258, map[int]int{'a': 1, 256: 2, 257: 2}), []int{1}) + "00110" + "0" + "10"),
		packed(ownBlock("1", lengthsWith(258, map[int]int{'a': 1, 256: 2, 257: 2}), []int{0, 0}) + "00010"),
	}
}

func TestInflateTurnedBits(t *testing.T) {
	seen := map[api.Errno]int{}
	for _, b := range streams(t) {
		if _, _, e := Inflate(b, 1<<20); e != api.OK {
			t.Fatalf("P4.2: a good stream: %d", e)
		}
		for at := range 8 * len(b) {
			turned := bytes.Clone(b)
			turned[at/8] ^= 1 << (at % 8)
			for _, most := range []int{5, 40, 5000} {
				seen[checkPlain(t, turned, most)]++
			}
			for _, cut := range []int{at / 8, at/8 + 1, (at/8 + len(b)) / 2} {
				seen[checkPlain(t, turned[:cut], 5000)]++
			}
		}
	}
	for _, e := range []api.Errno{api.OK, api.ErrForm, api.ErrShort, api.ErrLong} {
		if seen[e] < 100 {
			t.Errorf("P4.2: %d was met %d times only", e, seen[e])
		}
	}
}

func TestInflateAnyBytes(t *testing.T) {
	for x := range 1 << 16 {
		checkPlain(t, []byte{byte(x), byte(x >> 8)}, 4)
	}
	r := rand.New(rand.NewSource(7))
	for range 20000 {
		b := make([]byte, r.Intn(60))
		r.Read(b)
		if len(b) > 0 && r.Intn(2) == 0 {
			b[0] = b[0]&^7 | 5
		}
		checkPlain(t, b, r.Intn(200))
	}
}

// TestInflateOwnCodes tries blocks of kind 2 with codes that are nearly right, and any signs behind.
func TestInflateOwnCodes(t *testing.T) {
	r := rand.New(rand.NewSource(8))
	seen := map[api.Errno]int{}
	for range 3000 {
		signs := make([]int, 257+r.Intn(30))
		distances := make([]int, 1+r.Intn(30))
		signs[256] = 1
		for _, list := range [][]int{signs, distances} {
			// Splitting one code into two keeps them right.
			has := []int{r.Intn(len(list))}
			if len(list) > 256 {
				has[0] = 256
			}
			list[has[0]] = r.Intn(2)
			if len(list) > 1 && r.Intn(4) > 0 {
				for range 1 + r.Intn(12) {
					from, to := has[r.Intn(len(has))], r.Intn(len(list))
					if list[to] == 0 && list[from] < 15 {
						list[from]++
						if len(has) == 1 && list[from] == 2 {
							list[from] = 1
						}
						list[to] = list[from]
						has = append(has, to)
					}
				}
			}
			if r.Intn(6) == 0 {
				list[r.Intn(len(list))] = r.Intn(16)
			}
		}
		bits := ownBlock("1", signs, distances)
		tail := make([]byte, r.Intn(30))
		r.Read(tail)
		seen[checkPlain(t, packed(bits+unpacked(tail)), r.Intn(300))]++
	}
	for _, e := range []api.Errno{api.OK, api.ErrForm, api.ErrShort, api.ErrLong} {
		if seen[e] < 20 {
			t.Errorf("P4.2: %d was met %d times only: %v", e, seen[e], seen)
		}
	}
}

func TestArgumentsStayAsTheyAre(t *testing.T) {
	text := []byte(strings.Repeat("lanyard, lanyard; ", 50))
	room := append(bytes.Clone(text), "spare room behind"...)
	before := bytes.Clone(room)
	b := room[:len(text)]
	stored := Stored(b)
	deflated, _ := Deflate(b)
	if !bytes.Equal(room, before) {
		t.Error("P4.3: what was handed in was changed")
	}
	for _, d := range [][]byte{stored, deflated, packed(manyBlocks)} {
		room := append(bytes.Clone(d), "spare room behind"...)
		before := bytes.Clone(room)
		x, _, e := Inflate(room[:len(d)], 5000)
		if e != api.OK || !bytes.Equal(room, before) {
			t.Errorf("P4.3: %d: what was handed in was changed", e)
		}
		kept := bytes.Clone(x)
		clear(room)
		if !bytes.Equal(x, kept) {
			t.Error("P4.3: an answer shares memory with what was handed in")
		}
		clear(x[:cap(x)])
		again, _, _ := Inflate(d, 5000)
		if !bytes.Equal(again, kept) {
			t.Error("P4.3: an answer hangs on an earlier one")
		}
	}
	keptStored, keptDeflated := bytes.Clone(stored), bytes.Clone(deflated)
	clear(room)
	if !bytes.Equal(stored, keptStored) || !bytes.Equal(deflated, keptDeflated) {
		t.Error("P4.3: an answer shares memory with what was handed in")
	}
	clear(stored[:cap(stored)])
	clear(deflated[:cap(deflated)])
	deflated, _ = Deflate(before[:len(text)])
	if !bytes.Equal(Stored(before[:len(text)]), keptStored) || !bytes.Equal(deflated, keptDeflated) {
		t.Error("P4.3: an answer hangs on an earlier one")
	}
}

// TestEndsSoon: what is worst for each call is still done in a moment.
func TestEndsSoon(t *testing.T) {
	from := time.Now()
	r := rand.New(rand.NewSource(9))
	for _, b := range [][]byte{make([]byte, api.MaxText), bytes.Repeat([]byte("ab"), api.MaxText/2), fewLetters(r, api.MaxText, 30), fewLetters(r, api.MaxText, 2)} {
		if _, e := Deflate(b); e != api.OK {
			t.Error(e)
		}
	}
	empty := slices.Repeat([]string{"010" + fixedBits(256)}, 80000)
	checkFault(t, "many empty blocks", strings.Join(empty, ""), 0, api.ErrShort)
	bits := "110" + fixedBits(0) + strings.Repeat(fixedBits(285)+"00000", 100000)
	checkFault(t, "a long text of few bytes", bits, 65536, api.ErrLong)
	own := ownBlock("0", lengthsWith(257, map[int]int{'a': 1, 256: 1}), []int{0}) + "1"
	checkFault(t, "many blocks with codes of their own", strings.Repeat(own, 3000), 0, api.ErrShort)
	if d := time.Since(from); d > 20*time.Second {
		t.Errorf("it took %v", d)
	}
}
