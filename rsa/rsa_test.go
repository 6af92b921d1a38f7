package rsa

import (
	"bytes"
	"crypto"
	library "crypto/rsa"
	"crypto/sha256"
	"math/big"
	"math/rand"
	"slices"
	"testing"

	"lanyard/api"
)

// number is what bytes are worth, by the library.
func number(b []byte) *big.Int {
	return new(big.Int).SetBytes(b)
}

// n are the bytes of a small number.
func n(x int64) []byte {
	return big.NewInt(x).Bytes()
}

// power are the bytes of 2 to the power of bits, and so much more or less.
func power(bits uint, more int64) []byte {
	x := new(big.Int).Lsh(big.NewInt(1), bits)
	return x.Add(x, big.NewInt(more)).Bytes()
}

// plus are the bytes of a number, and so much more or less.
func plus(a []byte, more int64) []byte {
	x := number(a)
	return x.Add(x, big.NewInt(more)).Bytes()
}

// padded is b behind so many noughts.
func padded(noughts int, b []byte) []byte {
	return append(make([]byte, noughts), b...)
}

// primeFrom are the bytes of the first prime from a on.
func primeFrom(a []byte) []byte {
	x := number(a)
	for !x.ProbablyPrime(20) {
		x.Add(x, big.NewInt(1))
	}
	return x.Bytes()
}

// made is the key of p, q and e, which must be one.
func made(t *testing.T, p, q, e []byte) api.Key {
	t.Helper()
	k, err := Make(p, q, e)
	if err != api.OK {
		t.Fatalf("P7.1: Make(%x, %x, %x): %d", p, q, e, err)
	}
	return k
}

// example is the chapter's key.
func example(t *testing.T) api.Key {
	t.Helper()
	return made(t, power(256, -189), power(255, -19), n(65537))
}

// smallest is a key of 62 bytes, the first of them 01: many of its signatures begin with a nought, and a signature and N fit into its size.
func smallest(t *testing.T) api.Key {
	t.Helper()
	p := primeFrom(power(244, 1<<62))
	q := new(big.Int).Quo(number(power(489, -1<<62)), number(p))
	return made(t, p, primeFrom(plus(q.Bytes(), -1<<60)), n(65537))
}

// greatest is a key of 512 bytes.
func greatest(t *testing.T) api.Key {
	t.Helper()
	return made(t, power(2048, -1557), power(2047, -85), n(65537))
}

// keys are keys of several sizes, with small and great public exponents.
func keys(t *testing.T) []api.Key {
	t.Helper()
	ks := []api.Key{
		example(t),
		smallest(t),
		made(t, power(248, -237), power(248, -387), n(65537)),
		made(t, power(512, -569), power(512, -629), n(3)),
		made(t, power(511, -187), power(64, -59), n(17)),
		greatest(t),
	}
	k, p, q := example(t), power(256, -189), power(255, -19)
	ks = append(ks, made(t, p, q, coprime(power(300, 1), p, q)))
	// D and E may change places: the public exponent is the long one.
	return append(ks, api.Key{N: k.N, E: k.D, D: k.E})
}

// noughted is a key with leading noughts on each of its numbers.
func noughted(k api.Key, noughts int) api.Key {
	return api.Key{N: padded(noughts, k.N), E: padded(noughts+1, k.E), D: padded(noughts+2, k.D)}
}

// signed is what Sign answers, which must be a signature.
func signed(t *testing.T, k api.Key, b []byte) []byte {
	t.Helper()
	sig, err := Sign(k, b)
	if err != api.OK {
		t.Fatalf("P7.2: Sign of %q: %d", b, err)
	}
	return sig
}

// wantSeal is the sealed form, written anew.
func wantSeal(b []byte, size int) []byte {
	digest := sha256.Sum256(b)
	form := []byte{0, 1}
	for len(form) < size-1-19-32 {
		form = append(form, 0xFF)
	}
	form = append(form, 0, 0x30, 0x31, 0x30, 0x0D, 0x06, 0x09, 0x60, 0x86, 0x48, 0x01, 0x65, 0x03, 0x04, 0x02, 0x01, 0x05, 0x00, 0x04, 0x20)
	return append(form, digest[:]...)
}

// raised is a number to the power of e by N, in as many bytes as size.
func raised(a, e, by []byte, size int) []byte {
	return new(big.Int).Exp(number(a), number(e), number(by)).FillBytes(make([]byte, size))
}

func checkRight(t *testing.T, what string, k api.Key, want bool) {
	t.Helper()
	if Right(k) != want {
		t.Errorf("P7.1: Right of a key with %s: %v", what, !want)
	}
}

// isNone: is a key the zero value?
func isNone(k api.Key) bool {
	return len(k.N) == 0 && len(k.E) == 0 && len(k.D) == 0
}

func sameKey(a, b api.Key) bool {
	return bytes.Equal(a.N, b.N) && bytes.Equal(a.E, b.E) && bytes.Equal(a.D, b.D)
}

func TestRightExample(t *testing.T) {
	k := example(t)
	checkRight(t, "the example's numbers", k, true)
	checkRight(t, "no D", Public(k), true)
	checkRight(t, "nothing", api.Key{}, false)
	for _, k := range keys(t) {
		checkRight(t, "a pair's numbers", k, true)
	}
}

func TestRightModulus(t *testing.T) {
	e, d := n(3), n(5)
	for _, c := range []struct {
		what string
		n    []byte
		want bool
	}{
		{"N of 0", nil, false},
		{"N of 5", n(5), false},
		{"the greatest N of 61 bytes", power(488, -1), false},
		{"the greatest N of 61 bytes behind a nought", padded(1, power(488, -1)), false},
		{"the greatest N of 61 bytes behind many", padded(400, power(488, -1)), false},
		{"the least N of 62 bytes, even", power(488, 0), false},
		{"the least odd N of 62 bytes", power(488, 1), true},
		{"an even N", power(500, 2), false},
		{"an odd N", power(500, 3), true},
		{"an odd N behind noughts", padded(3, power(500, 3)), true},
		{"an even N behind noughts", padded(3, power(500, 2)), false},
		{"the greatest N of 512 bytes", power(4096, -1), true},
		{"the greatest even N of 512 bytes", power(4096, -2), false},
		{"the greatest N of 512 bytes behind one nought", padded(1, power(4096, -1)), true},
		{"the greatest N of 512 bytes behind 2000", padded(2000, power(4096, -1)), true},
		{"the least odd N of 513 bytes", power(4096, 1), false},
		{"N of 1024 bytes", power(8191, 1), false},
		{"N of 1025 bytes", power(8192, 1), false},
		{"N of noughts", make([]byte, 64), false},
	} {
		checkRight(t, c.what, api.Key{N: c.n, E: e, D: d}, c.want)
	}
}

func TestRightExponents(t *testing.T) {
	k := example(t)
	for _, c := range []struct {
		what string
		x    []byte
		e, d bool
	}{
		{"0", nil, false, true},
		{"0, as noughts", make([]byte, 2000), false, true},
		{"1", n(1), false, true},
		{"2", n(2), false, true},
		{"3", n(3), true, true},
		{"3 behind noughts", padded(2000, n(3)), true, true},
		{"4", n(4), false, true},
		{"5", n(5), true, true},
		{"256", n(256), false, true},
		{"257", n(257), true, true},
		{"258", n(258), false, true},
		{"N", k.N, false, false},
		{"N behind noughts", padded(1, k.N), false, false},
		{"N less 1", plus(k.N, -1), false, true},
		{"N less 2", plus(k.N, -2), true, true},
		{"N less 2 behind noughts", padded(1000, plus(k.N, -2)), true, true},
		{"N and 1", plus(k.N, 1), false, false},
		{"N and 2", plus(k.N, 2), false, false},
		{"2 to the power of 600, and 1", power(600, 1), false, false},
		{"2 to the power of 8192, and 1", power(8192, 1), false, false},
	} {
		checkRight(t, "E of "+c.what, api.Key{N: k.N, E: c.x, D: k.D}, c.e)
		checkRight(t, "E of "+c.what+" and no D", api.Key{N: k.N, E: c.x}, c.e)
		checkRight(t, "D of "+c.what, api.Key{N: k.N, E: k.E, D: c.x}, c.d)
		long := padded(7, k.N)
		checkRight(t, "N behind noughts and E of "+c.what, api.Key{N: long, E: c.x, D: k.D}, c.e)
		checkRight(t, "N behind noughts and D of "+c.what, api.Key{N: long, E: k.E, D: c.x}, c.d)
	}
}

// wantMake is Make by the library's numbers.
func wantMake(pb, qb, eb []byte) (api.Key, api.Errno) {
	p, q, e, one := number(pb), number(qb), number(eb), big.NewInt(1)
	if p.Cmp(big.NewInt(3)) < 0 || q.Cmp(big.NewInt(3)) < 0 || p.Cmp(q) == 0 {
		return api.Key{}, api.ErrArg
	}
	modulus := new(big.Int).Mul(p, q)
	if size := (modulus.BitLen() + 7) / 8; size < 62 || size > 512 {
		return api.Key{}, api.ErrSize
	}
	p.Sub(p, one)
	q.Sub(q, one)
	both := new(big.Int).Mul(p, q)
	both.Quo(both, new(big.Int).GCD(nil, nil, p, q))
	d := new(big.Int).ModInverse(e, both)
	if d == nil {
		return api.Key{}, api.ErrNone
	}
	if modulus.Bit(0) == 0 || e.Bit(0) == 0 || e.Cmp(big.NewInt(3)) < 0 || e.Cmp(modulus) >= 0 {
		return api.Key{}, api.ErrArg
	}
	return api.Key{N: modulus.Bytes(), E: e.Bytes(), D: d.Bytes()}, api.OK
}

// checkMake holds Make against the library's numbers, p and q both ways round, and behind noughts, and answers its error.
func checkMake(t *testing.T, p, q, e []byte) api.Errno {
	t.Helper()
	want, wantErr := wantMake(p, q, e)
	for i, c := range [][3][]byte{
		{p, q, e}, {q, p, e},
		{padded(1, p), q, e}, {p, padded(1, q), e}, {p, q, padded(1, e)},
		{padded(1100, p), padded(1200, q), padded(1300, e)},
	} {
		k, err := Make(c[0], c[1], c[2])
		if err != wantErr || !sameKey(k, want) {
			t.Errorf("P7.1: Make(%x, %x, %x), %d: %d, not %d", p, q, e, i, err, wantErr)
		}
		if err == api.OK && !Right(k) {
			t.Errorf("P7.1: Make(%x, %x, %x): a key that isn't right", p, q, e)
		}
	}
	return wantErr
}

func TestMakeExample(t *testing.T) {
	k := example(t)
	if len(k.N) != 64 || !bytes.Equal(k.E, []byte{1, 0, 1}) || len(k.D) == 0 || k.D[0] == 0 {
		t.Errorf("P7.1: %x", k)
	}
	checkMake(t, power(256, -189), power(255, -19), n(65537))
	sig := signed(t, k, []byte("abc"))
	if err := Verify(k, []byte("abc"), sig); err != api.OK {
		t.Errorf("P7.3: %d", err)
	}
}

func TestMakeErrors(t *testing.T) {
	p, q, e := power(256, -189), power(255, -19), n(65537)
	long := power(8192, 1)
	for i, c := range []struct {
		p, q, e []byte
		want    api.Errno
	}{
		{nil, q, e, api.ErrArg},
		{n(1), q, e, api.ErrArg},
		{n(2), q, e, api.ErrArg},
		{n(3), q, e, api.ErrSize},
		{nil, nil, nil, api.ErrArg},
		{n(3), n(3), e, api.ErrArg},
		{n(3), n(5), e, api.ErrSize},
		{n(3), n(5), nil, api.ErrSize},
		{p, p, e, api.ErrArg},
		{p, slices.Clone(p), n(2), api.ErrArg},
		// What is told first holds, whatever else is wrong.
		{n(2), long, e, api.ErrArg},
		{n(2), n(5), nil, api.ErrArg},
		{long, long, e, api.ErrArg},
		{long, nil, nil, api.ErrArg},
		{long, n(3), e, api.ErrSize},
		{long, q, n(2), api.ErrSize},
		{long, power(8192, 3), n(1), api.ErrSize},
		{p, n(5), n(2), api.ErrSize},
		{power(256, 0), n(5), n(2), api.ErrSize},
		// e without an inverse: 3 divides p - 1, 2 all of them, and so does 0.
		{p, q, nil, api.ErrNone},
		{p, q, n(2), api.ErrNone},
		{p, q, n(3), api.ErrNone},
		{p, q, power(600, 0), api.ErrNone},
		{p, q, power(8192, 0), api.ErrNone},
		{p, q, power(9000, 0), api.ErrNone},
		{power(256, 0), q, n(2), api.ErrNone},
		// An inverse, but no right key.
		{p, q, n(1), api.ErrArg},
		{power(256, 0), power(255, 0), n(2), api.ErrArg},
		{power(256, 0), power(255, 0), n(11), api.ErrArg},
	} {
		if got := checkMake(t, c.p, c.q, c.e); got != c.want {
			t.Errorf("P7.1: %d: %d, not %d", i, got, c.want)
		}
	}
}

// coprime is the first number from a on of which Make has an inverse.
func coprime(a, p, q []byte) []byte {
	one := big.NewInt(1)
	both := new(big.Int).Mul(number(plus(p, -1)), number(plus(q, -1)))
	x := number(a)
	for new(big.Int).GCD(nil, nil, x, both).Cmp(one) != 0 {
		x.Add(x, one)
	}
	return x.Bytes()
}

// An e from N on has an inverse, but makes no right key, however long it is.
func TestMakeOfGreatPublicExponents(t *testing.T) {
	p, q := power(256, -189), power(255, -19)
	k := example(t)
	below := number(k.N)
	both := new(big.Int).Mul(number(plus(p, -1)), number(plus(q, -1)))
	for below.Sub(below, big.NewInt(2)); new(big.Int).GCD(nil, nil, below, both).Cmp(big.NewInt(1)) != 0; {
		below.Sub(below, big.NewInt(2))
	}
	if got := checkMake(t, p, q, below.Bytes()); got != api.OK {
		t.Errorf("P7.1: an e just below N: %d", got)
	}
	for _, e := range [][]byte{k.N, plus(k.N, 2), power(520, 1), power(4096, 1), power(8191, 1), power(8192, 1), power(8200, 1), power(12288, 1), power(12296, 1), power(100000, 1)} {
		e = coprime(e, p, q)
		if got := checkMake(t, p, q, e); got != api.ErrArg {
			t.Errorf("P7.1: an e of %d bytes: %d", len(e), got)
		}
		if got := checkMake(t, p, q, plus(e, 1)); got != api.ErrNone {
			t.Errorf("P7.1: an even e of %d bytes: %d", len(e), got)
		}
	}
}

// Whether there is an inverse hangs on all of a long e.
func TestMakeOfLongPublicExponents(t *testing.T) {
	r := rand.New(rand.NewSource(72))
	seen := map[api.Errno]int{}
	for i := range 80 {
		p, q := power(256, -189), power(255, -19)
		if i%2 == 0 {
			p, q = power(2048, -1557), power(2048, -2543)
		}
		e := make([]byte, 513+r.Intn(4000))
		r.Read(e)
		e[len(e)-1] |= 1
		seen[checkMake(t, p, q, e)]++
	}
	if seen[api.ErrNone] == 0 || seen[api.ErrArg] == 0 || len(seen) != 2 {
		t.Errorf("P7.1: long numbers are answered by %v", seen)
	}
}

func TestMakeSizes(t *testing.T) {
	third := func(bits uint, more int64) []byte {
		x := number(power(bits, more))
		if new(big.Int).Mod(x, big.NewInt(3)).Sign() != 0 {
			t.Fatalf("no third: 2^%d, %d", bits, more)
		}
		return x.Quo(x, big.NewInt(3)).Bytes()
	}
	for _, c := range []struct {
		what string
		q    []byte
		want bool
	}{
		{"the greatest of 61 bytes", third(488, -1), false},
		{"nearly the least of 62 bytes", third(488, 5), true},
		{"nearly the greatest of 512 bytes", third(4096, -7), true},
		{"the least of 513 bytes", third(4096, 2), false},
		{"an odd one of 513 bytes", third(4096, 5), false},
	} {
		e := coprime(n(65537), n(3), c.q)
		if got := checkMake(t, n(3), c.q, e); (got == api.OK) != c.want || !c.want && got != api.ErrSize {
			t.Errorf("P7.1: 3 times another, N %s: %d", c.what, got)
		}
	}
	for _, c := range []struct {
		p, q []byte
		size int
	}{
		{power(244, -3), power(244, -1), 61},
		{power(244, 1), power(244, 3), 62},
		{power(248, -1), power(248, -3), 62},
		{power(248, 1), power(248, 3), 63},
		{power(2044, 1), power(2044, 3), 512},
		{power(2048, -1), power(2048, -3), 512},
		{power(2048, 1), power(2048, 3), 513},
		{power(4000, 1), power(4000, 3), 1001},
		{power(8191, 1), power(8191, 3), 2048},
	} {
		e := coprime(n(65537), c.p, c.q)
		got := checkMake(t, c.p, c.q, e)
		if right := c.size >= 62 && c.size <= 512; right && got != api.OK || !right && got != api.ErrSize {
			t.Errorf("P7.1: N of %d bytes: %d", c.size, got)
		}
		if k, err := Make(c.p, c.q, e); err == api.OK && len(k.N) != c.size {
			t.Errorf("P7.1: N of %d bytes, not %d", len(k.N), c.size)
		}
	}
}

// Whether p and q are prime isn't looked at.
func TestMakeOfAnyNumbers(t *testing.T) {
	r := rand.New(rand.NewSource(7))
	seen := map[api.Errno]int{}
	for range 1500 {
		p, q, e := make([]byte, r.Intn(60)), make([]byte, 1+r.Intn(60)), make([]byte, 1+r.Intn(4))
		if r.Intn(10) == 0 {
			q, e = make([]byte, 1+r.Intn(520)), make([]byte, 1+r.Intn(3000))
		}
		r.Read(p)
		r.Read(q)
		r.Read(e)
		if r.Intn(2) == 0 && len(p) > 0 {
			p[len(p)-1] |= 1
			q[len(q)-1] |= 1
			e[len(e)-1] |= 1
		}
		seen[checkMake(t, p, q, e)]++
	}
	for _, e := range []api.Errno{api.OK, api.ErrArg, api.ErrSize, api.ErrNone} {
		if seen[e] == 0 {
			t.Errorf("P7.1: no numbers of which Make answers %d", e)
		}
	}
}

func TestSeal(t *testing.T) {
	for size := 62; size <= 512; size++ {
		b := bytes.Repeat([]byte("a"), size%130)
		form, err := Seal(b, size)
		if err != api.OK || len(form) != size || !bytes.Equal(form, wantSeal(b, size)) {
			t.Errorf("P7.2: Seal of %d bytes for %d: %x, %d", len(b), size, form, err)
		}
	}
	for _, b := range [][]byte{nil, {}, {0}, []byte("abc"), make([]byte, 1<<20)} {
		form, err := Seal(b, 64)
		if err != api.OK || !bytes.Equal(form, wantSeal(b, 64)) {
			t.Errorf("P7.2: Seal of %d bytes: %x, %d", len(b), form, err)
		}
	}
	for _, size := range []int{61, 513, 0, 1, 53, 54, 60, 514, 1024, -1, -62, -64, -512, -1 << 63, 1<<63 - 1, 1<<32 + 64, 1<<8 + 257} {
		form, err := Seal([]byte("abc"), size)
		if err != api.ErrSize || len(form) != 0 {
			t.Errorf("P7.2: Seal for %d: %x, %d", size, form, err)
		}
	}
}

// checkSign holds Sign against the library's numbers, also of the key with leading noughts, and answers the signature.
func checkSign(t *testing.T, k api.Key, b []byte) []byte {
	t.Helper()
	size := len(number(k.N).Bytes())
	form := wantSeal(b, size)
	want := raised(form, k.D, k.N, size)
	wantErr := api.OK
	if !bytes.Equal(raised(want, k.E, k.N, size), form) {
		want, wantErr = nil, api.ErrSign
	}
	for _, noughts := range []int{0, 1, 1024} {
		sig, err := Sign(noughted(k, noughts), b)
		if err != wantErr || !bytes.Equal(sig, want) {
			t.Errorf("P7.2: Sign of %q behind %d noughts: %x, %d, not %x, %d", b, noughts, sig, err, want, wantErr)
		}
	}
	return want
}

func TestSign(t *testing.T) {
	for _, k := range keys(t) {
		for _, b := range [][]byte{nil, []byte("abc"), bytes.Repeat([]byte{0}, 1000)} {
			sig := checkSign(t, k, b)
			if len(sig) != len(k.N) {
				t.Errorf("P7.2: a key of %d bytes signs by %d", len(k.N), len(sig))
			}
			if err := Verify(Public(k), b, sig); err != api.OK {
				t.Errorf("P7.4: what Sign answers: %d", err)
			}
			if err := Verify(noughted(k, 1024), b, sig); err != api.OK {
				t.Errorf("P7.4: what Sign answers, by a key with leading noughts: %d", err)
			}
		}
	}
}

// The library must take what Sign answers, and Verify what the library signs.
func TestSignAsTheLibrary(t *testing.T) {
	t.Setenv("GODEBUG", "rsa1024min=0")
	r := rand.New(rand.NewSource(70))
	primes := [][2][]byte{
		{power(256, -189), power(255, -19)},
		{power(512, -569), power(511, -187)},
		{power(1024, -105), power(1023, -361)},
	}
	for _, c := range primes {
		k := made(t, c[0], c[1], n(65537))
		key := &library.PrivateKey{
			PublicKey: library.PublicKey{N: number(k.N), E: 65537},
			D:         number(k.D),
			Primes:    []*big.Int{number(c[0]), number(c[1])},
		}
		key.Precompute()
		for i := range 4 {
			b := make([]byte, i*40)
			r.Read(b)
			digest := sha256.Sum256(b)
			sig := signed(t, k, b)
			if err := library.VerifyPKCS1v15(&key.PublicKey, crypto.SHA256, digest[:], sig); err != nil {
				t.Errorf("P7.2: the library doesn't take a signature: %v", err)
			}
			other, err := library.SignPKCS1v15(nil, key, crypto.SHA256, digest[:])
			if err != nil {
				t.Fatal(err)
			}
			if !bytes.Equal(sig, other) {
				t.Errorf("P7.2: %x, the library: %x", sig, other)
			}
			if e := Verify(Public(k), b, other); e != api.OK {
				t.Errorf("P7.3: the library's signature: %d", e)
			}
		}
	}
}

func TestSignErrors(t *testing.T) {
	k, other := example(t), made(t, power(256, -357), power(255, -31), n(65537))
	for _, c := range []struct {
		what string
		k    api.Key
		want api.Errno
	}{
		{"nothing", api.Key{}, api.ErrArg},
		{"no D", Public(k), api.ErrArg},
		{"a D of noughts", api.Key{N: k.N, E: k.E, D: make([]byte, 2000)}, api.ErrArg},
		{"D of N", api.Key{N: k.N, E: k.E, D: k.N}, api.ErrArg},
		{"D of N behind noughts", api.Key{N: k.N, E: k.E, D: padded(5, k.N)}, api.ErrArg},
		{"a D of 1025 bytes", api.Key{N: k.N, E: k.E, D: power(8192, 1)}, api.ErrArg},
		{"an even N", api.Key{N: plus(k.N, 1), E: k.E, D: k.D}, api.ErrArg},
		{"an N of 61 bytes", api.Key{N: power(488, -1), E: k.E, D: n(5)}, api.ErrArg},
		{"an N of 513 bytes", api.Key{N: power(4096, 1), E: k.E, D: k.D}, api.ErrArg},
		{"an N of 1025 bytes", api.Key{N: power(8192, 1), E: k.E, D: k.D}, api.ErrArg},
		{"no E", api.Key{N: k.N, D: k.D}, api.ErrArg},
		{"E of 1", api.Key{N: k.N, E: n(1), D: n(1)}, api.ErrArg},
		{"E of 2", api.Key{N: k.N, E: n(2), D: k.D}, api.ErrArg},
		{"E of N", api.Key{N: k.N, E: k.N, D: k.D}, api.ErrArg},
		{"an E of 1025 bytes", api.Key{N: k.N, E: power(8192, 1), D: k.D}, api.ErrArg},
		{"D of 1", api.Key{N: k.N, E: k.E, D: n(1)}, api.ErrSign},
		{"D of 5", api.Key{N: k.N, E: k.E, D: n(5)}, api.ErrSign},
		{"D one more", api.Key{N: k.N, E: k.E, D: plus(k.D, 1)}, api.ErrSign},
		{"D of N less 1", api.Key{N: k.N, E: k.E, D: plus(k.N, -1)}, api.ErrSign},
		{"another's D", api.Key{N: k.N, E: k.E, D: other.D}, api.ErrSign},
		{"another's N", api.Key{N: other.N, E: k.E, D: k.D}, api.ErrSign},
		{"another E", api.Key{N: k.N, E: n(17), D: k.D}, api.ErrSign},
	} {
		for _, noughts := range []int{0, 1100} {
			sig, err := Sign(noughted(c.k, noughts), []byte("abc"))
			if err != c.want || len(sig) != 0 {
				t.Errorf("P7.2: Sign by a key with %s: %x, %d, not %d", c.what, sig, err, c.want)
			}
		}
	}
}

// Numbers that aren't prime make right keys, but what they sign is none.
func TestSignByNoKey(t *testing.T) {
	p, q := power(256, -1), power(255, -19)
	k := made(t, p, q, coprime(n(65537), p, q))
	if !Right(k) {
		t.Error("P7.1: a key of numbers that aren't prime isn't right")
	}
	checkSign(t, k, []byte("abc"))
	if sig, err := Sign(k, []byte("abc")); err != api.ErrSign || len(sig) != 0 {
		t.Errorf("P7.2: a key that is none: %x, %d", sig, err)
	}
}

// Several D belong to one N and E: any of them signs, and alike.
func TestSignByGreaterD(t *testing.T) {
	k, b := example(t), []byte("abc")
	p, q := number(power(256, -190)), number(power(255, -20))
	both := new(big.Int).Mul(p, q)
	both.Quo(both, new(big.Int).GCD(nil, nil, p, q))
	greater := both.Add(both, number(k.D)).Bytes()
	checkRight(t, "a greater D", api.Key{N: k.N, E: k.E, D: greater}, true)
	if sig := checkSign(t, api.Key{N: k.N, E: k.E, D: greater}, b); !bytes.Equal(sig, signed(t, k, b)) {
		t.Errorf("P7.2: by a greater D: %x", sig)
	}
}

// withNoughts is a message whose signature begins with a nought, and one whose doesn't.
func withNoughts(t *testing.T, k api.Key) (with, without []byte) {
	t.Helper()
	for i := 0; with == nil || without == nil; i++ {
		b := []byte{byte(i), byte(i >> 8)}
		if signed(t, k, b)[0] == 0 {
			with = b
		} else {
			without = b
		}
	}
	return with, without
}

func TestSignatureWithLeadingNoughts(t *testing.T) {
	for _, k := range []api.Key{example(t), smallest(t)} {
		with, without := withNoughts(t, k)
		if err := Verify(k, without, checkSign(t, k, without)); err != api.OK {
			t.Errorf("P7.3: a signature without leading noughts: %d", err)
		}
		sig := checkSign(t, k, with)
		if len(sig) != len(k.N) || sig[0] != 0 {
			t.Fatalf("P7.2: %x", sig)
		}
		if err := Verify(k, with, sig); err != api.OK {
			t.Errorf("P7.3: a signature with a leading nought: %d", err)
		}
		if err := Verify(k, with, sig[1:]); err != api.ErrSize {
			t.Errorf("P7.3: without its leading nought: %d", err)
		}
		if err := Verify(k, with, padded(1, sig)); err != api.ErrSize {
			t.Errorf("P7.3: with a nought more: %d", err)
		}
	}
}

func TestVerifyErrors(t *testing.T) {
	k, b := example(t), []byte("abc")
	sig := signed(t, k, b)
	ones := bytes.Repeat([]byte{0xFF}, 64)
	for _, c := range []struct {
		what string
		k    api.Key
		sig  []byte
		want api.Errno
	}{
		{"as it is", k, sig, api.OK},
		{"by the public key", Public(k), sig, api.OK},
		{"by a key with another D", api.Key{N: k.N, E: k.E, D: n(5)}, sig, api.OK},
		{"by a key with the greatest D", api.Key{N: k.N, E: k.E, D: plus(k.N, -1)}, sig, api.OK},
		{"by a key with N for D", api.Key{N: k.N, E: k.E, D: k.N}, sig, api.ErrArg},
		{"by a D of 1025 bytes", api.Key{N: k.N, E: k.E, D: power(8192, 1)}, sig, api.ErrArg},
		{"by an N of 1025 bytes", api.Key{N: power(8192, 1), E: k.E}, sig, api.ErrArg},
		{"by an E of 1025 bytes", api.Key{N: k.N, E: power(8192, 1)}, sig, api.ErrArg},
		{"by no key", api.Key{}, sig, api.ErrArg},
		{"by no key, of no bytes", api.Key{}, nil, api.ErrArg},
		{"by an even N, one byte less", api.Key{N: plus(k.N, 1), E: k.E}, sig[1:], api.ErrArg},
		{"by E of 1", api.Key{N: k.N, E: n(1)}, wantSeal(b, 64), api.ErrArg},
		{"by E of 3", api.Key{N: k.N, E: n(3)}, sig, api.ErrSign},
		{"by E of N less 2", api.Key{N: k.N, E: plus(k.N, -2)}, sig, api.ErrSign},
		{"of no bytes", k, nil, api.ErrSize},
		{"one byte less at the end", k, sig[:63], api.ErrSize},
		{"one byte less at the beginning", k, sig[1:], api.ErrSize},
		{"one byte more at the end", k, append(slices.Clone(sig), 0), api.ErrSize},
		{"one byte more at the beginning", k, padded(1, sig), api.ErrSize},
		{"of 2000 bytes", k, make([]byte, 2000), api.ErrSize},
		{"of 65 bytes FF", k, append(slices.Clone(ones), 0xFF), api.ErrSize},
		{"equal to N", k, k.N, api.ErrSign},
		{"N less 1", k, plus(k.N, -1), api.ErrSign},
		{"N and 1", k, plus(k.N, 1), api.ErrSign},
		{"of bytes FF", k, ones, api.ErrSign},
		{"of noughts", k, make([]byte, 64), api.ErrSign},
		{"the sealed form itself", k, wantSeal(b, 64), api.ErrSign},
		{"N less the signature", k, new(big.Int).Sub(number(k.N), number(sig)).FillBytes(make([]byte, 64)), api.ErrSign},
	} {
		for _, noughts := range []int{0, 1, 1100} {
			if got := Verify(noughted(c.k, noughts), b, c.sig); got != c.want {
				t.Errorf("P7.3: a signature %s, %d noughts: %d, not %d", c.what, noughts, got, c.want)
			}
		}
	}
}

// What isn't below N is none, though its power is the sealed form.
func TestVerifyFromModulusOn(t *testing.T) {
	k := smallest(t)
	if k.N[0] != 1 {
		t.Fatalf("N begins with %x", k.N[0])
	}
	for _, b := range [][]byte{nil, []byte("abc"), []byte("d")} {
		sig := signed(t, k, b)
		for times := range int64(100) {
			above := new(big.Int).Mul(number(k.N), big.NewInt(times))
			above.Add(above, number(sig))
			want := api.ErrSign
			if times == 0 {
				want = api.OK
			}
			if got := Verify(k, b, above.FillBytes(make([]byte, 62))); got != want {
				t.Errorf("P7.3: a signature and %d times N: %d", times, got)
			}
		}
	}
}

func TestVerifyBitsTurned(t *testing.T) {
	k, b := example(t), []byte("abc")
	sig := signed(t, k, b)
	for i := range len(sig) * 8 {
		turned := slices.Clone(sig)
		turned[i/8] ^= 1 << (i % 8)
		if got := Verify(k, b, turned); got != api.ErrSign {
			t.Errorf("P7.3: bit %d of a signature turned: %d", i, got)
		}
	}
	for i := range len(b) * 8 {
		turned := slices.Clone(b)
		turned[i/8] ^= 1 << (i % 8)
		if got := Verify(k, turned, sig); got != api.ErrSign {
			t.Errorf("P7.4: bit %d of the bytes turned: %d", i, got)
		}
	}
	for i := range len(k.N)*8 - 8 {
		turned := slices.Clone(k.N)
		turned[i/8+1] ^= 1 << (i % 8)
		want := api.ErrSign
		if i == len(k.N)*8-16 {
			want = api.ErrArg
		}
		if got := Verify(api.Key{N: turned, E: k.E}, b, sig); got != want {
			t.Errorf("P7.3: bit %d of N turned: %d, not %d", i, got, want)
		}
	}
}

// Forms that are nearly sealed, signed by the very key.
func TestVerifyOtherForms(t *testing.T) {
	b := []byte("abc")
	digest := sha256.Sum256(b)
	for _, k := range []api.Key{example(t), smallest(t), made(t, power(512, -569), power(512, -629), n(3))} {
		size := len(k.N)
		form := wantSeal(b, size)
		check := func(what string, form []byte, want api.Errno) {
			t.Helper()
			if len(form) != size || number(form).Cmp(number(k.N)) >= 0 {
				return
			}
			if got := Verify(k, b, raised(form, k.D, k.N, size)); got != want {
				t.Errorf("P7.3: the signature of %s: %d, not %d", what, got, want)
			}
		}
		check("the sealed form", form, api.OK)
		for i := range size * 8 {
			turned := slices.Clone(form)
			turned[i/8] ^= 1 << (i % 8)
			check("a sealed form with one bit turned", turned, api.ErrSign)
		}
		tail := form[size-19-32:]
		check("the digest alone", padded(size-32, digest[:]), api.ErrSign)
		check("the digest behind FF", slices.Concat([]byte{0, 1}, bytes.Repeat([]byte{0xFF}, size-35), []byte{0}, digest[:]), api.ErrSign)
		check("too few FF, the rest behind the digest", slices.Concat([]byte{0, 1, 0xFF, 0}, tail, make([]byte, size-4-len(tail))), api.ErrSign)
		check("a byte less of FF, one behind the digest", slices.Concat(form[:2], form[3:], []byte{0}), api.ErrSign)
		check("noughts for FF", slices.Concat([]byte{0, 1}, make([]byte, size-2-len(tail)), tail), api.ErrSign)
		bare := slices.Concat([]byte{0x30, 0x2F, 0x30, 0x0B}, tail[4:15], []byte{0x04, 0x20}, digest[:])
		check("the algorithm without its 05 00", slices.Concat([]byte{0, 1}, bytes.Repeat([]byte{0xFF}, size-3-len(bare)), []byte{0}, bare), api.ErrSign)
	}
}

func TestVerifyByAnotherKey(t *testing.T) {
	b := []byte("abc")
	ks := []api.Key{
		example(t),
		made(t, power(256, -357), power(255, -31), n(65537)),
		made(t, power(256, -189), power(255, -31), n(65537)),
		made(t, power(256, -189), power(255, -19), n(17)),
	}
	for i, k := range ks {
		sig := signed(t, k, b)
		for j, other := range ks {
			want := api.ErrSign
			if i == j {
				want = api.OK
			}
			if got := Verify(Public(other), b, sig); got != want {
				t.Errorf("P7.3: signed by key %d, verified by %d: %d", i, j, got)
			}
		}
	}
}

// One signature is for bytes of one digest alone.
func TestOneSignatureOneDigest(t *testing.T) {
	k := example(t)
	var bs, sigs [][]byte
	for i := range 30 {
		b := bytes.Repeat([]byte("ab\x00"), i)[:i]
		bs = append(bs, b)
		sigs = append(sigs, signed(t, k, b))
	}
	for i, b := range bs {
		for j, sig := range sigs {
			want := api.ErrSign
			if i == j {
				want = api.OK
			}
			if got := Verify(Public(k), b, sig); got != want {
				t.Errorf("P7.4: bytes %d, signature %d: %d", i, j, got)
			}
		}
	}
}

func TestPublic(t *testing.T) {
	k := example(t)
	for _, c := range []api.Key{
		k,
		noughted(k, 3),
		noughted(k, 2000),
		{},
		{D: k.D},
		{N: n(4), E: n(2), D: n(9)},
		{N: make([]byte, 3), E: make([]byte, 2)},
		{N: power(8192, 1), E: power(8192, 3), D: power(8192, 5)},
	} {
		got := Public(c)
		if !sameKey(got, api.Key{N: c.N, E: c.E}) || len(got.D) != 0 {
			t.Errorf("P7.3: Public(%x): %x", c, got)
		}
		if again := Public(got); !sameKey(again, got) {
			t.Errorf("P7.3: Public of a public key: %x", again)
		}
	}
}

// roomy is b with spare room behind it, all of it AA.
func roomy(b []byte) []byte {
	whole := bytes.Repeat([]byte{0xAA}, len(b)+700)
	copy(whole, b)
	return whole[:len(b)]
}

// checkKept holds numbers with their spare room against what they were.
func checkKept(t *testing.T, what string, args, were [][]byte) {
	t.Helper()
	for i, a := range args {
		if !bytes.Equal(a[:cap(a)], were[i]) {
			t.Errorf("P7.4: %s changed argument %d", what, i)
		}
	}
}

func TestArgumentsStayAsTheyAre(t *testing.T) {
	k := example(t)
	sig := signed(t, k, []byte("abc"))
	for _, noughts := range []int{0, 5} {
		args := [][]byte{
			roomy(padded(noughts, k.N)), roomy(padded(noughts, k.E)), roomy(padded(noughts, k.D)),
			roomy([]byte("abc")), roomy(sig),
			roomy(padded(noughts, power(256, -189))), roomy(padded(noughts, power(255, -19))), roomy(padded(noughts, n(65537))),
			roomy(power(9000, 1)),
		}
		var were [][]byte
		for _, a := range args {
			were = append(were, slices.Clone(a[:cap(a)]))
		}
		key := api.Key{N: args[0], E: args[1], D: args[2]}
		for what, call := range map[string]func(){
			"Right":                 func() { Right(key) },
			"Public":                func() { Public(key) },
			"Sign":                  func() { Sign(key, args[3]) },
			"Verify":                func() { Verify(key, args[3], args[4]) },
			"Seal":                  func() { Seal(args[3], 64) },
			"Make":                  func() { Make(args[5], args[6], args[7]) },
			"Make with a long e":    func() { Make(args[5], args[6], args[8]) },
			"Make with a long p":    func() { Make(args[8], args[6], args[7]) },
			"Make of one number":    func() { Make(args[5], args[5], args[5]) },
			"Sign by a wrong D":     func() { Sign(api.Key{N: args[0], E: args[1], D: args[5]}, args[3]) },
			"Verify of other bytes": func() { Verify(key, args[4], args[4]) },
		} {
			call()
			checkKept(t, what, args, were)
		}
	}
}

// spoil turns all bytes of lists, their spare room included.
func spoil(lists ...[]byte) {
	for _, l := range lists {
		l = l[:cap(l)]
		for i := range l {
			l[i] ^= 0xFF
		}
	}
}

func TestAnswersAreNew(t *testing.T) {
	p, q, e := roomy(power(256, -189)), roomy(power(255, -19)), roomy(n(65537))
	first := made(t, p, q, e)
	want := example(t)
	b := roomy([]byte("abc"))
	sig := signed(t, first, b)
	wantSig := slices.Clone(sig)
	form, _ := Seal(b, 64)
	public := Public(first)

	// Neither what was handed in nor another answer changes with one.
	for i, c := range []struct{ list, was []byte }{
		{public.N, want.N}, {public.E, want.E}, {form, wantSeal([]byte("abc"), 64)}, {sig, wantSig},
		{first.N, want.N}, {first.E, want.E}, {first.D, want.D},
		{b, []byte("abc")}, {p, power(256, -189)}, {q, power(255, -19)}, {e, n(65537)},
	} {
		if !bytes.Equal(c.list, c.was) {
			t.Errorf("P7.4: list %d changed with another: %x, not %x", i, c.list, c.was)
		}
		spoil(c.list)
	}

	again := example(t)
	if !sameKey(again, want) {
		t.Errorf("P7.4: a later key: %x", again)
	}
	if later := signed(t, again, []byte("abc")); !bytes.Equal(later, wantSig) {
		t.Errorf("P7.4: a later signature: %x", later)
	}
	if later, _ := Seal([]byte("abc"), 64); !bytes.Equal(later, wantSeal([]byte("abc"), 64)) {
		t.Errorf("P7.4: a later sealed form: %x", later)
	}
	if got := Verify(Public(again), []byte("abc"), wantSig); got != api.OK {
		t.Errorf("P7.4: a later Verify: %d", got)
	}
}

// What Make, Public and Sign were handed may be changed behind the call.
func TestArgumentsAreNotKept(t *testing.T) {
	want := example(t)
	p, q, e := power(256, -189), power(255, -19), n(65537)
	k := made(t, p, q, e)
	spoil(p, q, e)
	if !sameKey(k, want) {
		t.Errorf("P7.4: a key changed with what it was made of: %x", k)
	}
	public := Public(k)
	b := []byte("abc")
	sig := signed(t, k, b)
	was := slices.Clone(sig)
	spoil(k.N, k.E, k.D, b)
	if !sameKey(public, Public(want)) {
		t.Errorf("P7.4: a public key changed with its key: %x", public)
	}
	if !bytes.Equal(sig, was) {
		t.Errorf("P7.4: a signature changed with its key: %x", sig)
	}
}

// Every call ends and none panics, at whatever it is given.
func TestAnyArguments(t *testing.T) {
	k := example(t)
	lists := [][]byte{
		nil, {0}, n(1), n(2), n(3), n(65537), make([]byte, 64), make([]byte, 1025),
		k.N, k.E, k.D, plus(k.N, -1), plus(k.N, 1), power(488, 1), power(4096, -1), power(8191, 1), power(8192, 1), padded(1100, k.N),
	}
	r := rand.New(rand.NewSource(71))
	for range 3000 {
		pick := func() []byte { return lists[r.Intn(len(lists))] }
		some := api.Key{N: pick(), E: pick(), D: pick()}
		if len(number(some.N).Bytes()) > 64 && len(some.D) > 64 {
			some.D = nil
		}
		sig, err := Sign(some, pick())
		if (err == api.OK) != (len(sig) > 0) {
			t.Errorf("P7.2: Sign by %x: %x, %d", some, sig, err)
		}
		if err == api.ErrArg && Right(some) && number(some.D).Sign() != 0 {
			t.Errorf("P7.2: Sign by %x: %d", some, err)
		}
		if err := Verify(some, pick(), pick()); (err == api.ErrArg) == Right(some) {
			t.Errorf("P7.3: Verify by %x: %d", some, err)
		}
		p, q, e := pick(), pick(), pick()
		made, err := Make(p, q, e)
		want, wantErr := wantMake(p, q, e)
		if err != wantErr || !sameKey(made, want) {
			t.Errorf("P7.1: Make(%x, %x, %x): %d, not %d", p, q, e, err, wantErr)
		}
		if err != api.OK && !isNone(made) {
			t.Errorf("P7.1: a key beside an error: %x", made)
		}
	}
}

// Numbers of a million bytes are answered like others.
func TestLongNumbers(t *testing.T) {
	p, q := power(256, -189), power(255, -19)
	k := example(t)
	long := bytes.Repeat([]byte{0xA5}, 1<<20)
	noughts := 1 << 20
	if _, err := Make(long, q, k.E); err != api.ErrSize {
		t.Errorf("P7.1: a long p: %d", err)
	}
	if _, err := Make(long, slices.Clone(long), k.E); err != api.ErrArg {
		t.Errorf("P7.1: a long p and q, the same: %d", err)
	}
	_, want := wantMake(p, q, long)
	if _, err := Make(p, q, long); err != want {
		t.Errorf("P7.1: a long e: %d, not %d", err, want)
	}
	if made, err := Make(padded(noughts, p), padded(noughts, q), padded(noughts, k.E)); err != api.OK || !sameKey(made, k) {
		t.Errorf("P7.1: a million leading noughts: %d", err)
	}
	sig := signed(t, noughted(k, noughts), long)
	if err := Verify(noughted(k, noughts), long, sig); err != api.OK {
		t.Errorf("P7.4: a long message: %d", err)
	}
	if err := Verify(k, long, long); err != api.ErrSize {
		t.Errorf("P7.3: a long signature: %d", err)
	}
}
