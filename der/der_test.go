package der

import (
	"bytes"
	"encoding/asn1"
	"encoding/hex"
	"math/big"
	random "math/rand"
	"slices"
	"testing"

	"lanyard/api"
	"lanyard/rsa"
)

// power are the bytes of 2 to the power of bits, and so much more or less.
func power(bits uint, more int64) []byte {
	x := new(big.Int).Lsh(big.NewInt(1), bits)
	return x.Add(x, big.NewInt(more)).Bytes()
}

// example is chapter 7's key, a private one of 64 bytes, whose first bit is 0.
func example(t *testing.T) api.Key {
	t.Helper()
	k, err := rsa.Make(power(256, -189), power(255, -19), []byte{1, 0, 1})
	if err != api.OK {
		t.Fatalf("the key: %d", err)
	}
	return k
}

// keys are public keys of several sizes, with numbers whose first bit is 0 and 1.
func keys(t *testing.T) []api.Key {
	t.Helper()
	return []api.Key{
		rsa.Public(example(t)),
		{N: power(488, 1), E: []byte{3}},
		{N: power(496, -1), E: []byte{0x7F}},
		{N: power(495, 1), E: []byte{0x81}},
		{N: power(1024, -105), E: []byte{1, 0, 1}},
		{N: power(1016, 1), E: []byte{0xFF, 0xFF}},
		{N: power(1008, 1), E: power(1007, 1)},
		{N: power(4096, -1), E: power(4096, -3)},
		{N: power(4089, 1), E: power(4088, 1)},
	}
}

// wrongKeys are keys that aren't right.
func wrongKeys(t *testing.T) []api.Key {
	t.Helper()
	n := example(t).N
	return []api.Key{
		{},
		{N: n},
		{E: []byte{3}},
		{N: n, E: []byte{1}},
		{N: n, E: []byte{4}},
		{N: n, E: n},
		{N: n, E: []byte{3}, D: n},
		{N: power(511, 2), E: []byte{3}},
		{N: power(488, -1), E: []byte{3}},
		{N: power(4096, 1), E: []byte{3}},
	}
}

// contents are those by which a number is written.
func contents(a []byte) []byte {
	b, _ := asn1.Marshal(new(big.Int).SetBytes(a))
	var raw asn1.RawValue
	asn1.Unmarshal(b, &raw)
	return raw.Bytes
}

func isNone(k api.Key) bool {
	return len(k.N) == 0 && len(k.E) == 0 && len(k.D) == 0
}

// samePublic: are these two one public key, as bytes?
func samePublic(a, b api.Key) bool {
	return bytes.Equal(a.N, b.N) && bytes.Equal(a.E, b.E) && len(a.D) == 0 && len(b.D) == 0
}

func samePieces(a, b []api.Piece) bool {
	return slices.EqualFunc(a, b, func(x, y api.Piece) bool {
		return x.Tag == y.Tag && bytes.Equal(x.Body, y.Body)
	})
}

// piece is one, with contents as a text.
func piece(tag byte, body string) api.Piece {
	return api.Piece{Tag: tag, Body: []byte(body)}
}

// checkTake holds Take against what is wanted.
func checkTake(t *testing.T, b []byte, want api.Piece, wantTook int, wantErr api.Errno) {
	t.Helper()
	p, took, err := Take(b)
	if err != wantErr || took != wantTook || p.Tag != want.Tag || !bytes.Equal(p.Body, want.Body) {
		t.Errorf("P8.1: Take(%.20x, %d bytes): tag %x, %d bytes, took %d, error %d; wanted tag %x, %d bytes, %d, error %d", b, len(b), p.Tag, len(p.Body), took, err, want.Tag, len(want.Body), wantTook, wantErr)
	}
}

// checkSplit holds Split against what is wanted.
func checkSplit(t *testing.T, b []byte, want []api.Piece, wantErr api.Errno) {
	t.Helper()
	ps, err := Split(b)
	if err != wantErr || !samePieces(ps, want) {
		t.Errorf("P8.1: Split(%.40x): %x, %d; wanted %x, %d", b, ps, err, want, wantErr)
	}
}

// checkKey holds what ParseInfo or FromCert answered against what is wanted.
func checkKey(t *testing.T, what string, k api.Key, err api.Errno, want api.Key, wantErr api.Errno) {
	t.Helper()
	if err != wantErr || !samePublic(k, want) {
		t.Errorf("%s: %x, %d; wanted %x, %d", what, k, err, want, wantErr)
	}
}

// checkFails looks that a reading answers an error, and no key beside it.
func checkFails(t *testing.T, what string, read func([]byte) (api.Key, api.Errno), b []byte, want api.Errno) {
	t.Helper()
	k, err := read(b)
	if err != want || !isNone(k) {
		t.Errorf("%s: %x, %d; wanted %d", what, k, err, want)
	}
}

func TestPutExamples(t *testing.T) {
	for _, c := range []struct {
		ps   []api.Piece
		want string
	}{
		{nil, ""},
		{[]api.Piece{piece(0x02, "\x05")}, "020105"},
		{[]api.Piece{{Tag: 0x05}}, "0500"},
		{[]api.Piece{{}}, "0000"},
		{[]api.Piece{piece(0x02, "\x05"), {Tag: 0x05}, piece(0x30, "\x02\x01\x07")}, "02010505003003020107"},
		{[]api.Piece{piece(0xA0, "ab"), piece(0xA0, "ab")}, "a0026162a0026162"},
	} {
		b, err := Put(c.ps...)
		if err != api.OK || hex.EncodeToString(b) != c.want {
			t.Errorf("P8.1: Put(%x): %x, %d; wanted %s", c.ps, b, err, c.want)
		}
	}
}

// edges are sizes of contents, and how they are written.
var edges = []struct {
	size int
	head string
}{
	{0, "00"}, {1, "01"}, {126, "7e"}, {127, "7f"}, {128, "8180"}, {129, "8181"}, {254, "81fe"}, {255, "81ff"},
	{256, "820100"}, {257, "820101"}, {32768, "828000"}, {65534, "82fffe"}, {65535, "82ffff"}, {65536, "83010000"}, {65537, "83010001"},
	{1<<20 - 2, "830ffffe"}, {1<<20 - 1, "830fffff"},
}

func TestPutSizes(t *testing.T) {
	for _, c := range edges {
		body := bytes.Repeat([]byte{0xC3}, c.size)
		head, _ := hex.DecodeString("04" + c.head)
		want := append(head, body...)
		b, err := Put(api.Piece{Tag: 0x04, Body: body})
		if err != api.OK || !bytes.Equal(b, want) {
			t.Errorf("P8.1: Put of %d bytes: %.10x, %d bytes, %d", c.size, b, len(b), err)
		}
		library, _ := asn1.Marshal(body)
		if !bytes.Equal(b, library) {
			t.Errorf("P8.1: Put of %d bytes isn't as the library's: %.10x", c.size, library)
		}
		checkTake(t, b, api.Piece{Tag: 0x04, Body: body}, len(b), api.OK)
		checkTake(t, append(b, 0x1F, 0x00), api.Piece{Tag: 0x04, Body: body}, len(b), api.OK)
		checkSplit(t, append(b, 0x05, 0x00), []api.Piece{{Tag: 0x04, Body: body}, {Tag: 0x05}}, api.OK)
		for cut := range min(len(b), 300) {
			checkTake(t, b[:cut], api.Piece{}, 0, api.ErrShort)
		}
		checkTake(t, b[:len(b)-1], api.Piece{}, 0, api.ErrShort)
	}
}

func TestPutTooLong(t *testing.T) {
	for _, size := range []int{1 << 20, 1<<20 + 1, 1 << 24} {
		long := api.Piece{Tag: 0x04, Body: make([]byte, size)}
		for _, ps := range [][]api.Piece{{long}, {{Tag: 0x05}, long}, {long, {Tag: 0x05}}} {
			if b, err := Put(ps...); err != api.ErrArg || len(b) != 0 {
				t.Errorf("P8.1: Put of %d bytes: %d bytes, %d", size, len(b), err)
			}
		}
	}
	most := api.Piece{Tag: 0x04, Body: make([]byte, 1<<20-1)}
	if b, err := Put(most, most); err != api.OK || len(b) != 2*(5+1<<20-1) {
		t.Errorf("P8.1: Put of two long pieces: %d bytes, %d", len(b), err)
	}
}

func TestTags(t *testing.T) {
	none := []byte{0x1F, 0x3F, 0x5F, 0x7F, 0x9F, 0xBF, 0xDF, 0xFF}
	for tag := range 256 {
		p := piece(byte(tag), "ab")
		b, err := Put(p)
		if !slices.Contains(none, byte(tag)) {
			if err != api.OK || !bytes.Equal(b, []byte{byte(tag), 2, 'a', 'b'}) {
				t.Errorf("P8.1: Put with tag %x: %x, %d", tag, b, err)
			}
			checkTake(t, b, p, 4, api.OK)
			continue
		}
		if err != api.ErrArg || len(b) != 0 {
			t.Errorf("P8.1: Put with tag %x: %x, %d", tag, b, err)
		}
		if b, err := Put(piece(2, "a"), p, piece(2, "a")); err != api.ErrArg || len(b) != 0 {
			t.Errorf("P8.1: Put with tag %x between others: %x, %d", tag, b, err)
		}
		for _, rest := range []string{"", "\x02", "\x02ab", "\x80", "\x84", "\x81\x7F", "\x83\x10\x00\x00"} {
			checkTake(t, append([]byte{byte(tag)}, rest...), api.Piece{}, 0, api.ErrForm)
		}
	}
}

func TestTakeErrors(t *testing.T) {
	for _, c := range []struct {
		b    string
		want api.Errno
	}{
		{"", api.ErrShort},
		{"1f", api.ErrForm}, {"1f80", api.ErrForm},
		{"02", api.ErrShort},
		{"0280", api.ErrForm}, {"028000", api.ErrForm}, {"0284", api.ErrForm}, {"028400000001aa", api.ErrForm}, {"0285", api.ErrForm}, {"02ff", api.ErrForm},
		{"0281", api.ErrShort}, {"0282", api.ErrShort}, {"028200", api.ErrShort}, {"028201", api.ErrShort}, {"0283", api.ErrShort}, {"02830000", api.ErrShort}, {"02831000", api.ErrShort}, {"0283ffff", api.ErrShort},
		{"028100", api.ErrForm}, {"02810105", api.ErrForm}, {"028105", api.ErrForm}, {"02817f", api.ErrForm}, {"02820000", api.ErrForm}, {"02820001aa", api.ErrForm}, {"0282007f", api.ErrForm}, {"02820080", api.ErrForm}, {"028200ff", api.ErrForm}, {"0283000000", api.ErrForm}, {"0283000080", api.ErrForm}, {"0283000100", api.ErrForm}, {"028300ffff", api.ErrForm},
		{"0283100000", api.ErrLong}, {"0283100001", api.ErrLong}, {"02837fffff", api.ErrLong}, {"0283ffffff", api.ErrLong},
		{"0201", api.ErrShort}, {"027f", api.ErrShort}, {"028180", api.ErrShort}, {"0281ff", api.ErrShort}, {"02820100", api.ErrShort}, {"0282ffff", api.ErrShort}, {"0283010000", api.ErrShort}, {"02830fffff", api.ErrShort},
	} {
		b, _ := hex.DecodeString(c.b)
		checkTake(t, b, api.Piece{}, 0, c.want)
		if len(b) > 0 {
			checkSplit(t, b, nil, c.want)
			checkSplit(t, append([]byte{0x05, 0x00}, b...), nil, c.want)
		}
	}
}

// Lengths that aren't as told are ErrForm, and too great ones ErrLong, though all of their bytes are there.
func TestTakeErrorsWithContents(t *testing.T) {
	behind := make([]byte, 1<<20+10)
	for head, want := range map[string]api.Errno{
		"0280": api.ErrForm, "02817f": api.ErrForm, "02820080": api.ErrForm, "0283000080": api.ErrForm, "0283001000": api.ErrForm, "0284": api.ErrForm, "028400000001": api.ErrForm, "0283100000": api.ErrLong,
	} {
		b, _ := hex.DecodeString(head)
		checkTake(t, append(b, behind...), api.Piece{}, 0, want)
	}
}

// Every beginning of up to six bytes of those that matter is taken as the chapter says.
func TestTakeAll(t *testing.T) {
	signs := []byte{0x00, 0x01, 0x02, 0x10, 0x1F, 0x7F, 0x80, 0x81, 0x82, 0x83, 0x84, 0xFF}
	var grow func(b []byte)
	grow = func(b []byte) {
		want, took, err := wantTake(b)
		checkTake(t, b, want, took, err)
		if len(b) < 5 {
			for _, s := range signs {
				grow(append(bytes.Clone(b), s))
			}
		}
	}
	grow(nil)
}

// No two bytes are one piece's: what is taken is put as it was.
func TestOneForm(t *testing.T) {
	r := random.New(random.NewSource(81))
	took := 0
	for range 200000 {
		b := make([]byte, 2+r.Intn(300))
		r.Read(b)
		if r.Intn(2) == 0 {
			b[1] = byte(0x80 + r.Intn(5))
			b[2%len(b)] = byte(r.Intn(2) * r.Intn(256))
		}
		want, wantTook, wantErr := wantTake(b)
		checkTake(t, b, want, wantTook, wantErr)
		p, n, err := Take(b)
		if err != api.OK {
			continue
		}
		took++
		if again, err := Put(p); err != api.OK || !bytes.Equal(again, b[:n]) {
			t.Fatalf("P8.4: %x is taken as tag %x with %x, which is put as %x", b[:n], p.Tag, p.Body, again)
		}
	}
	if took < 1000 {
		t.Errorf("only %d were taken", took)
	}
}

func TestSplit(t *testing.T) {
	checkSplit(t, nil, nil, api.OK)
	checkSplit(t, []byte{}, nil, api.OK)
	checkSplit(t, []byte{0x05, 0x00}, []api.Piece{{Tag: 0x05}}, api.OK)
	checkSplit(t, []byte{0x02, 0x01, 0x05, 0x30, 0x02, 0x05, 0x00, 0x05, 0x00}, []api.Piece{piece(0x02, "\x05"), piece(0x30, "\x05\x00"), {Tag: 0x05}}, api.OK)
	// What stands within isn't split: it may be anything.
	checkSplit(t, []byte{0x30, 0x01, 0x1F}, []api.Piece{piece(0x30, "\x1F")}, api.OK)
	// The first error is told, whatever comes behind.
	checkSplit(t, []byte{0x05, 0x00, 0x1F, 0x00, 0x05}, nil, api.ErrForm)
	checkSplit(t, []byte{0x05, 0x83, 0x10, 0x00, 0x00, 0x1F}, nil, api.ErrLong)
	checkSplit(t, []byte{0x05, 0x02, 0x1F}, nil, api.ErrShort)
	checkSplit(t, []byte{0x05, 0x00, 0x05, 0x81, 0x01, 0x83, 0x10, 0x00, 0x00}, nil, api.ErrForm)
}

func TestSplitMany(t *testing.T) {
	r := random.New(random.NewSource(82))
	for range 500 {
		var ps []api.Piece
		for range r.Intn(12) {
			body := make([]byte, r.Intn(400))
			r.Read(body)
			ps = append(ps, api.Piece{Tag: byte(r.Intn(31)) | byte(r.Intn(8))<<5, Body: body})
		}
		b, err := Put(ps...)
		if err != api.OK {
			t.Fatalf("P8.1: Put(%x): %d", ps, err)
		}
		checkSplit(t, b, ps, api.OK)
		cut := b[:r.Intn(len(b)+1)]
		want, wantErr := wantSplit(cut)
		checkSplit(t, cut, want, wantErr)
	}
	b := bytes.Repeat([]byte{0x05, 0x00}, 1<<20)
	if ps, err := Split(b); err != api.OK || len(ps) != 1<<20 {
		t.Errorf("P8.1: Split of many pieces: %d, %d", len(ps), err)
	}
}

// The chapter's example of a length in the long form.
func TestTakeExample(t *testing.T) {
	checkTake(t, []byte("\x02\x81\x05abcde"), api.Piece{}, 0, api.ErrForm)
}
