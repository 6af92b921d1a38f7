package hash

import (
	"bytes"
	"crypto/hmac"
	"crypto/pbkdf2"
	"crypto/sha256"
	"encoding/hex"
	"math"
	"math/big"
	"math/rand"
	"slices"
	"strings"
	"testing"

	"lanyard/api"
)

// checkHex holds an answer against the digits that are wanted.
func checkHex(t *testing.T, promise, what string, got []byte, want string) {
	t.Helper()
	if hex.EncodeToString(got) != want {
		t.Errorf("%s: %s: %x, not %s", promise, what, got, want)
	}
}

// checkSum holds Sum of pieces against the library's digest of all of them.
func checkSum(t *testing.T, bs ...[]byte) {
	t.Helper()
	want := sha256.Sum256(slices.Concat(bs...))
	if got := Sum(bs...); !bytes.Equal(got, want[:]) {
		t.Fatalf("P5.1: Sum of %d pieces, %d bytes: %x, not %x", len(bs), len(slices.Concat(bs...)), got, want)
	}
}

// checkMac holds Mac of pieces against the library's HMAC of all of them.
func checkMac(t *testing.T, key []byte, bs ...[]byte) {
	t.Helper()
	h := hmac.New(sha256.New, key)
	h.Write(slices.Concat(bs...))
	if got, want := Mac(key, bs...), h.Sum(nil); !bytes.Equal(got, want) {
		t.Fatalf("P5.1: Mac with a key of %d bytes of %d pieces, %d bytes: %x, not %x", len(key), len(bs), len(slices.Concat(bs...)), got, want)
	}
}

// checkStretch holds Stretch against the library's PBKDF2.
func checkStretch(t *testing.T, password, salt []byte, rounds, size int) {
	t.Helper()
	want, err := pbkdf2.Key(sha256.New, string(password), salt, rounds, size)
	if err != nil {
		t.Fatal(err)
	}
	got, e := Stretch(password, salt, rounds, size)
	if e != api.OK || !bytes.Equal(got, want) {
		t.Fatalf("P5.2: Stretch(%q, %q, %d, %d): %x, %d, not %x", password, salt, rounds, size, got, e, want)
	}
}

// someBytes are n bytes of every kind.
func someBytes(n int) []byte {
	b := make([]byte, n)
	rand.New(rand.NewSource(int64(n) + 1)).Read(b)
	return b
}

// cut is b in so many pieces, some of them empty or nil.
func cut(r *rand.Rand, b []byte, pieces int) [][]byte {
	var bs [][]byte
	for len(bs) < pieces-1 {
		size := r.Intn(len(b) + 1)
		if r.Intn(3) == 0 {
			size = min(len(b), r.Intn(3))
		}
		if bs = append(bs, b[:size]); size == 0 && r.Intn(2) == 0 {
			bs[len(bs)-1] = nil
		}
		b = b[size:]
	}
	return append(bs, b)
}

func TestSumExamples(t *testing.T) {
	for text, want := range map[string]string{
		"":    "e3b0c44298fc1c149afbf4c8996fb92427ae41e4649b934ca495991b7852b855",
		"abc": "ba7816bf8f01cfea414140de5dae2223b00361a396177a9cb410ff61f20015ad",
		"abcdbcdecdefdefgefghfghighijhijkijkljklmklmnlmnomnopnopq":                                                         "248d6a61d20638b8e5c026930c3e6039a33ce45964ff2167f6ecedd419db06c1",
		"abcdefghbcdefghicdefghijdefghijkefghijklfghijklmghijklmnhijklmnoijklmnopjklmnopqklmnopqrlmnopqrsmnopqrstnopqrstu": "cf5b16a778af8380036ce59e7b0492370b249b11e8f07a51afac45037afee9d1",
		strings.Repeat("a", 1000000): "cdc76e5c9914fb9281a1c7e284d73e67f1809a48a497200e046d39ccc7112cd0",
	} {
		checkHex(t, "P5.1", "Sum", Sum([]byte(text)), want)
	}
}

func TestSumOfNothing(t *testing.T) {
	const want = "e3b0c44298fc1c149afbf4c8996fb92427ae41e4649b934ca495991b7852b855"
	checkHex(t, "P5.1", "Sum()", Sum(), want)
	for _, bs := range [][][]byte{nil, {}, {nil}, {{}}, {nil, {}, nil}, make([][]byte, 300)} {
		checkHex(t, "P5.1", "Sum of no bytes", Sum(bs...), want)
	}
}

func TestSumOfEachLength(t *testing.T) {
	for n := range 400 {
		checkSum(t, someBytes(n))
		checkSum(t, make([]byte, n))
		checkSum(t, bytes.Repeat([]byte{0x80}, n))
		checkSum(t, bytes.Repeat([]byte{0xFF}, n))
	}
	for _, n := range []int{1 << 12, 65535, 65536, 65537, 1 << 20} {
		checkSum(t, someBytes(n))
	}
}

func TestSumOfEachByteInEachPlace(t *testing.T) {
	for place := range 64 {
		for x := range 256 {
			b := make([]byte, 64)
			b[place] = byte(x)
			checkSum(t, b)
		}
	}
}

func TestSumHoweverCut(t *testing.T) {
	for _, n := range []int{0, 1, 2, 55, 56, 57, 63, 64, 65, 119, 120, 121, 127, 128, 129, 192, 200} {
		b := someBytes(n)
		for first := range n + 1 {
			checkSum(t, b[:first], b[first:])
			checkSum(t, nil, b[:first], []byte{}, nil, b[first:], []byte{})
			for second := first; second <= n; second += 7 {
				checkSum(t, b[:first], b[first:second], b[second:])
			}
		}
		checkSum(t, slices.Collect(slices.Chunk(b, 1))...)
		checkSum(t, slices.Collect(slices.Chunk(b, 64))...)
		checkSum(t, slices.Collect(slices.Chunk(b, 65))...)
	}
	r := rand.New(rand.NewSource(1))
	for range 3000 {
		checkSum(t, cut(r, someBytes(r.Intn(500)), 1+r.Intn(9))...)
	}
}

// The count of bits has 64 of them: this is the least one of more than 32.
func TestSumOfManyBytes(t *testing.T) {
	piece := someBytes(1 << 20)
	bs := slices.Repeat([][]byte{piece}, 1<<9)
	h := sha256.New()
	for _, b := range bs {
		h.Write(b)
	}
	if got, want := Sum(bs...), h.Sum(nil); !bytes.Equal(got, want) {
		t.Errorf("P5.1: Sum of 2^32 bits: %x, not %x", got, want)
	}
}

// isPrime tells the primes among small numbers.
func isPrime(x int64) bool {
	return big.NewInt(x).ProbablyPrime(0)
}

// rootBits are the first 32 bits of the fraction of the root of that power of p.
func rootBits(p int64, power uint) uint32 {
	whole := new(big.Int).Lsh(big.NewInt(p), 32*power)
	low, high := new(big.Int), new(big.Int).Lsh(big.NewInt(p), 32)
	for low.Cmp(high) < 0 {
		middle := new(big.Int).Add(low, high)
		middle.Rsh(middle.Add(middle, big.NewInt(1)), 1)
		if new(big.Int).Exp(middle, big.NewInt(int64(power)), nil).Cmp(whole) <= 0 {
			low = middle
		} else {
			high = middle.Sub(middle, big.NewInt(1))
		}
	}
	return uint32(low.Uint64())
}

func TestWordsAreOfRoots(t *testing.T) {
	p := int64(1)
	for i := range roundWords {
		for p++; !isPrime(p); p++ {
		}
		if want := rootBits(p, 3); roundWords[i] != want {
			t.Errorf("P5.1: K(%d): %08x, not %08x", i, roundWords[i], want)
		}
		if i >= 8 {
			continue
		}
		if got, want := begin().state[i], rootBits(p, 2); got != want {
			t.Errorf("P5.1: word %d of the first state: %08x, not %08x", i, got, want)
		}
	}
}

func TestMacExamples(t *testing.T) {
	many := func(b byte, n int) string { return strings.Repeat(string([]byte{b}), n) }
	for _, c := range []struct{ key, text, want string }{
		{many(0x0B, 20), "Hi There", "b0344c61d8db38535ca8afceaf0bf12b881dc200c9833da726e9376c2e32cff7"},
		{"Jefe", "what do ya want for nothing?", "5bdcc146bf60754e6a042426089575c75a003f089d2739839dec58b964ec3843"},
		{many(0xAA, 20), many(0xDD, 50), "773ea91e36800e46854db8ebd09181a72959098b3ef8c122d9635514ced565fe"},
		{many(0xAA, 131), "Test Using Larger Than Block-Size Key - Hash Key First", "60e431591ee0b67f0d8a26aacbf5b77f8e0bc6213728c5140546040f0ee37f54"},
		{many(0xAA, 131), "This is a test using a larger than block-size key and a larger than block-size data. The key needs to be hashed before being used by the HMAC algorithm.", "9b09ffa71b942fcb27635fbcd5b0e944bfdc63644f0713938a7f51535c3a35e2"},
		{"", "", "b613679a0814d9ec772f95d778c35fc5ff1697c493715653c6c712144292c5ad"},
	} {
		checkHex(t, "P5.1", "Mac", Mac([]byte(c.key), []byte(c.text)), c.want)
	}
}

func TestMacOfNothing(t *testing.T) {
	const want = "b613679a0814d9ec772f95d778c35fc5ff1697c493715653c6c712144292c5ad"
	for _, key := range [][]byte{nil, {}, make([]byte, 1), make([]byte, 64)} {
		checkHex(t, "P5.1", "Mac of nothing", Mac(key), want)
		for _, bs := range [][][]byte{nil, {}, {nil}, {{}}, {nil, {}, nil}} {
			checkHex(t, "P5.1", "Mac of no bytes", Mac(key, bs...), want)
		}
	}
}

func TestMacOfEachKey(t *testing.T) {
	for n := range 200 {
		for _, key := range [][]byte{someBytes(n), make([]byte, n), bytes.Repeat([]byte{0x36}, n), bytes.Repeat([]byte{0x5C}, n)} {
			checkMac(t, key)
			for _, size := range []int{0, 1, 20, 55, 56, 63, 64, 65, 119, 120, 128, 300} {
				checkMac(t, key, someBytes(size))
			}
		}
	}
	checkMac(t, someBytes(65536), someBytes(65536))
}

// Keys of 64 bytes are taken as they are, those of more by their digest, shorter ones with noughts behind them.
func TestMacKeyEdges(t *testing.T) {
	text := []byte("a text")
	for n := range 200 {
		key := someBytes(n)
		same := bytes.Equal(Mac(key, text), Mac(Sum(key), text))
		if same != (n > 64) {
			t.Errorf("P5.1: a key of %d bytes is as its digest: %t", n, same)
		}
		same = bytes.Equal(Mac(key, text), Mac(append(bytes.Clone(key), 0), text))
		if same != (n < 64) {
			t.Errorf("P5.1: a key of %d bytes is as with a nought behind it: %t", n, same)
		}
	}
}

func TestMacHoweverCut(t *testing.T) {
	for _, n := range []int{0, 1, 55, 56, 63, 64, 65, 119, 120, 128} {
		b := someBytes(n)
		for first := range n + 1 {
			checkMac(t, b, b[:first], b[first:])
			checkMac(t, b, nil, b[:first], []byte{}, b[first:], nil)
		}
	}
	r := rand.New(rand.NewSource(2))
	for range 1000 {
		checkMac(t, someBytes(r.Intn(150)), cut(r, someBytes(r.Intn(300)), 1+r.Intn(7))...)
	}
}

func TestStretchExamples(t *testing.T) {
	for _, c := range []struct {
		password, salt string
		rounds, size   int
		want           string
	}{
		{"password", "salt", 1, 32, "120fb6cffcf8b32c43e7225256c4f837a86548c92ccc35480805987cb70be17b"},
		{"password", "salt", 2, 32, "ae4d0c95af6b46d32d0adff928f06dd02a303f8ef3c251dfd6e2d85a95474c43"},
		{"password", "salt", 4096, 32, "c5e478d59288c841aa530db6845c4c8d962893a001ce4e11a4963873aa98134a"},
		{"passwordPASSWORDpassword", "saltSALTsaltSALTsaltSALTsaltSALTsalt", 4096, 40, "348c89dbcbd32b2f32d814b8116e84cf2b17347ebc1800181c4e2a1fb8dd53e1c635518c7dac47e9"},
		{"pass\x00word", "sa\x00lt", 4096, 16, "89b69d0516f829893c696226650a8687"},
		{"passwd", "salt", 1, 64, "55ac046e56e3089fec1691c22544b605f94185216dde0465e68b9d57c20dacbc49ca9cccf179b645991664b39d77ef317c71b845b1e30bd509112041d3a19783"},
		{"Password", "NaCl", 80000, 64, "4ddcd8f60b98be21830cee5ef22701f9641a4418d04c0414aeff08876b34ab56a1d425a1225833549adb841b51c9b3176a272bdebba1d078478f62b397f33c8d"},
	} {
		b, e := Stretch([]byte(c.password), []byte(c.salt), c.rounds, c.size)
		if e != api.OK {
			t.Errorf("P5.2: Stretch(%q, %q, %d, %d): %d", c.password, c.salt, c.rounds, c.size, e)
		}
		checkHex(t, "P5.2", "Stretch", b, c.want)
	}
}

func TestStretchOfEachSize(t *testing.T) {
	for size := 1; size <= 64; size++ {
		for _, rounds := range []int{1, 2, 3, 4, 17} {
			for _, password := range [][]byte{nil, {}, []byte("p"), someBytes(64), someBytes(65)} {
				for _, salt := range [][]byte{nil, {}, []byte("salt"), someBytes(51), someBytes(52), someBytes(64), someBytes(200)} {
					checkStretch(t, password, salt, rounds, size)
				}
			}
		}
	}
}

func TestStretchOfMostRounds(t *testing.T) {
	for _, rounds := range []int{99999, 100000} {
		for _, size := range []int{1, 64} {
			checkStretch(t, []byte("password"), []byte("salt"), rounds, size)
		}
	}
}

func TestStretchErrors(t *testing.T) {
	check := func(rounds, size int) {
		for _, b := range [][]byte{nil, {}, []byte("some bytes")} {
			if x, e := Stretch(b, b, rounds, size); e != api.ErrArg || len(x) != 0 {
				t.Errorf("P5.2: Stretch(%q, %q, %d, %d): %x, %d", b, b, rounds, size, x, e)
			}
		}
	}
	wrongRounds := []int{0, -1, -2, 100001, 1 << 32, 1<<32 + 1, math.MinInt, math.MinInt + 1, math.MaxInt}
	wrongSizes := []int{0, -1, -32, 65, 96, 1 << 32, 1<<32 + 1, math.MinInt, math.MinInt + 1, math.MaxInt}
	for _, rounds := range wrongRounds {
		for _, size := range []int{1, 32, 64} {
			check(rounds, size)
		}
		for _, size := range wrongSizes {
			check(rounds, size)
		}
	}
	for _, size := range wrongSizes {
		for _, rounds := range []int{1, 2, 100000} {
			check(rounds, size)
		}
	}
}

func checkEqual(t *testing.T, a, b []byte, want bool) {
	t.Helper()
	if Equal(a, b) != want || Equal(b, a) != want {
		t.Errorf("P5.2: Equal(%.40x, %.40x): not %t", a, b, want)
	}
}

func TestEqual(t *testing.T) {
	checkEqual(t, nil, nil, true)
	checkEqual(t, nil, []byte{}, true)
	checkEqual(t, []byte{}, []byte{}, true)
	checkEqual(t, []byte{0}, nil, false)
	checkEqual(t, []byte{0}, []byte{}, false)
	for n := 1; n < 150; n++ {
		a, b := someBytes(n), someBytes(n)
		checkEqual(t, a, b, true)
		checkEqual(t, a, a, true)
		checkEqual(t, a, a[:n-1], false)
		checkEqual(t, a, a[1:], false)
		checkEqual(t, a, append(bytes.Clone(a), 0), false)
		checkEqual(t, make([]byte, n), make([]byte, n-1), false)
		for place := range n {
			for bit := range 8 {
				b[place] ^= 1 << bit
				checkEqual(t, a, b, false)
				b[place] ^= 1 << bit
			}
		}
	}
}

func TestEqualOfEachTwoBytes(t *testing.T) {
	for x := range 256 {
		for y := range 256 {
			checkEqual(t, []byte{byte(x)}, []byte{byte(y)}, x == y)
			checkEqual(t, []byte{byte(x), byte(y)}, []byte{byte(y), byte(x)}, x == y)
		}
	}
}

// Two parts that each differ by the same bits don't make up for one another.
func TestEqualOfSeveralDifferences(t *testing.T) {
	a := someBytes(32)
	for i := range 32 {
		for j := range i {
			b := bytes.Clone(a)
			b[i], b[j] = b[i]^0x55, b[j]^0x55
			checkEqual(t, a, b, false)
			b[i], b[j] = a[i]+1, a[j]-1
			checkEqual(t, a, b, false)
		}
	}
}

// calls are the calls that answer bytes, of two lists.
func calls() []func(a, b []byte) []byte {
	return []func(a, b []byte) []byte{
		func(a, b []byte) []byte { return Sum(a) },
		func(a, b []byte) []byte { return Sum(a, b) },
		func(a, b []byte) []byte { return Mac(a) },
		func(a, b []byte) []byte { return Mac(a, b) },
		func(a, b []byte) []byte { return Mac(a, b, a) },
		func(a, b []byte) []byte { x, _ := Stretch(a, b, 1, 64); return x },
		func(a, b []byte) []byte { x, _ := Stretch(a, b, 3, 64); return x },
		func(a, b []byte) []byte { x, _ := Stretch(a, b, 2, 20); return x },
	}
}

func TestDependsOnAllBytesInTheirOrder(t *testing.T) {
	const n = 70
	for i, call := range calls() {
		a := someBytes(n)
		for j := range a {
			a[j] = byte(j)
		}
		seen := map[string]int{string(call(a, a)): 1}
		for place := range n {
			for bit := range 8 {
				b := bytes.Clone(a)
				b[place] ^= 1 << bit
				seen[string(call(b, a))]++
			}
			for other := range place {
				b := bytes.Clone(a)
				b[place], b[other] = b[other], b[place]
				seen[string(call(b, a))]++
			}
		}
		// A turned bit is one text, two bytes in each other's place another one.
		if want := 1 + 8*n + n*(n-1)/2; len(seen) != want {
			t.Errorf("P5.3: call %d has %d answers of %d texts", i, len(seen), want)
		}
	}
}

func TestDependsOnWhichBytesAlone(t *testing.T) {
	for i, call := range calls() {
		for _, n := range []int{0, 1, 32, 63, 64, 65, 130} {
			a, b := someBytes(n), someBytes(n+1)
			want := call(a, b)
			call(someBytes(500), someBytes(99))
			room := append(bytes.Clone(a), someBytes(200)...)
			other := append(someBytes(77), b...)
			if got := call(room[:n], other[77:]); !bytes.Equal(got, want) {
				t.Errorf("P5.3: call %d: the same bytes at another place, with other ones about: %x, not %x", i, got, want)
			}
		}
		same := someBytes(64)
		if !bytes.Equal(call(same, same), call(same, bytes.Clone(same))) {
			t.Errorf("P5.3: call %d: one list twice is not as two of the same bytes", i)
		}
	}
	if bytes.Equal(Sum([]byte("ab"), []byte("c")), Sum([]byte("c"), []byte("ab"))) {
		t.Error("P5.3: the order of pieces counts for nothing")
	}
	if bytes.Equal(Mac([]byte("k"), []byte("ab"), []byte("c")), Mac([]byte("k"), []byte("c"), []byte("ab"))) {
		t.Error("P5.3: the order of pieces counts for nothing")
	}
}

// What is handed in is neither changed, its spare room included, nor kept.
func TestArgumentsStayAsTheyAre(t *testing.T) {
	for i, call := range calls() {
		for _, n := range []int{0, 1, 55, 56, 63, 64, 65, 128} {
			whole, other := someBytes(n+200), someBytes(n+300)
			room, spare := bytes.Clone(whole), bytes.Clone(other)
			want := call(room[:n], spare[:n])
			if !bytes.Equal(room, whole) || !bytes.Equal(spare, other) {
				t.Fatalf("P5.3: call %d changed its arguments of %d bytes", i, n)
			}
			answer := bytes.Clone(want)
			for j := range room {
				room[j] ^= 0xFF
				spare[j] ^= 0xFF
			}
			if !bytes.Equal(want, answer) {
				t.Errorf("P5.3: call %d answers memory that was handed in", i)
			}
			if got := call(whole[:n], other[:n]); !bytes.Equal(got, answer) {
				t.Errorf("P5.3: call %d kept its arguments", i)
			}
		}
	}
	pieces := [][]byte{[]byte("a"), nil, []byte("bc"), []byte("spare")}
	Sum(pieces[:3]...)
	Mac(pieces[0], pieces[:3]...)
	Equal(pieces[0], pieces[2])
	if pieces[1] != nil || string(bytes.Join(pieces, []byte("|"))) != "a||bc|spare" {
		t.Errorf("P5.3: the list of pieces was changed: %q", pieces)
	}
}

// Changing an answer, its spare room included, changes no later answer.
func TestAnswersAreNew(t *testing.T) {
	a, b := someBytes(64), someBytes(10)
	var answers, copies [][]byte
	for range 3 {
		for _, call := range calls() {
			x := call(a, b)
			answers, copies = append(answers, x), append(copies, bytes.Clone(x))
		}
	}
	for i, x := range answers {
		for j := range x[:cap(x)] {
			x[:cap(x)][j] ^= 0xFF
		}
		for k := i + 1; k < len(answers); k++ {
			if !bytes.Equal(answers[k], copies[k]) {
				t.Fatalf("P5.3: answers %d and %d share memory", i, k)
			}
		}
	}
	for i, call := range calls() {
		if x := call(a, b); !bytes.Equal(x, copies[i]) {
			t.Errorf("P5.3: call %d: %x, not %x as ahead of the change", i, x, copies[i])
		}
	}
	if !bytes.Equal(a, someBytes(64)) || !bytes.Equal(b, someBytes(10)) {
		t.Error("P5.3: changing an answer changed an argument")
	}
}

func TestAnswersHaveTheirSize(t *testing.T) {
	for size := 1; size <= 64; size++ {
		x, _ := Stretch([]byte("password"), []byte("salt"), 1, size)
		if len(x) != size {
			t.Errorf("P5.2: %d bytes were answered, not %d", len(x), size)
		}
		if cap(x) != len(x) {
			t.Errorf("P5.2: behind the %d bytes asked for there is room up to %d", size, cap(x))
		}
	}
	if len(Sum(nil)) != 32 || len(Mac(nil)) != 32 {
		t.Error("P5.1: a digest has not 32 bytes")
	}
}
