package nat

import (
	"bytes"
	"math/big"
	"math/rand"
	"slices"
	"testing"

	"lanyard/api"
)

// number is what bytes are worth, by the library.
func number(b []byte) *big.Int {
	return new(big.Int).SetBytes(b)
}

// n are the bytes of a small number.
func n(x int64) []byte {
	return big.NewInt(x).Bytes()
}

// power are the bytes of 2 to the power of bits, and so much more or less.
func power(bits uint, more int64) []byte {
	x := new(big.Int).Lsh(big.NewInt(1), bits)
	return x.Add(x, big.NewInt(more)).Bytes()
}

// all are size bytes x.
func all(x byte, size int) []byte {
	return bytes.Repeat([]byte{x}, size)
}

// padded is b behind so many noughts.
func padded(noughts int, b []byte) []byte {
	return append(make([]byte, noughts), b...)
}

// someBytes are size bytes by r: of every kind, or in long runs of noughts and 255s, where carries go far.
func someBytes(r *rand.Rand, size int) []byte {
	b := make([]byte, size)
	if r.Intn(2) == 0 {
		r.Read(b)
		return b
	}
	for i := 0; i < size; {
		x := []byte{0, 0, 1, 0x7F, 0x80, 0xFE, 0xFF, 0xFF}[r.Intn(8)]
		for end := i + 1 + r.Intn(20); i < min(end, size); i++ {
			b[i] = x
		}
	}
	return b
}

// check holds an answer against a number: the very bytes, without leading noughts.
func check(t *testing.T, promise, what string, got []byte, e api.Errno, want *big.Int) {
	t.Helper()
	if e != api.OK || !bytes.Equal(got, want.Bytes()) {
		t.Errorf("%s: %s: %x, %d, not %x", promise, what, got, e, want)
	}
}

// checkErrno holds an error against the one that is wanted, and its answers against none.
func checkErrno(t *testing.T, promise, what string, e, want api.Errno, answers ...[]byte) {
	t.Helper()
	if e != want {
		t.Errorf("%s: %s: %d, not %d", promise, what, e, want)
	}
	for _, a := range answers {
		if len(a) != 0 {
			t.Errorf("%s: %s: %x beside an error", promise, what, a)
		}
	}
}

// checkSums holds Cmp, Add, Sub and Mul of a and b against the library.
func checkSums(t *testing.T, a, b []byte) {
	t.Helper()
	x, y := number(a), number(b)
	if got := Cmp(a, b); got != x.Cmp(y) {
		t.Errorf("P6.1: Cmp(%x, %x): %d", a, b, got)
	}
	s, e := Add(a, b)
	check(t, "P6.1", "Add", s, e, new(big.Int).Add(x, y))
	p, e := Mul(a, b)
	check(t, "P6.1", "Mul", p, e, new(big.Int).Mul(x, y))
	d, e := Sub(a, b)
	if x.Cmp(y) < 0 {
		checkErrno(t, "P6.1", "Sub of a lesser number", e, api.ErrArg, d)
	} else {
		check(t, "P6.1", "Sub", d, e, new(big.Int).Sub(x, y))
	}
}

// checkDiv holds Div against the library, and its two answers against each other by the package's own calls.
func checkDiv(t *testing.T, a, b []byte) {
	t.Helper()
	x, y := number(a), number(b)
	quotient, rest, e := Div(a, b)
	if y.Sign() == 0 {
		checkErrno(t, "P6.2", "Div by 0", e, api.ErrArg, quotient, rest)
		return
	}
	q, r := new(big.Int).QuoRem(x, y, new(big.Int))
	check(t, "P6.2", "Div's quotient", quotient, e, q)
	check(t, "P6.2", "Div's rest", rest, e, r)
	back, e1 := Mul(quotient, b)
	if e1 != api.OK {
		t.Errorf("P6.4: %x times %x: %d", quotient, b, e1)
	}
	if back, e = Add(back, rest); e != api.OK || !bytes.Equal(back, Trim(a)) {
		t.Errorf("P6.4: quotient times divisor and rest: %x, %d, not %x", back, e, a)
	}
	if Cmp(rest, b) >= 0 {
		t.Errorf("P6.4: a rest of %x by %x", rest, b)
	}
}

// checkExp holds Exp against the library.
func checkExp(t *testing.T, a, e, m []byte) {
	t.Helper()
	got, err := Exp(a, e, m)
	by := number(m)
	if by.Sign() == 0 {
		checkErrno(t, "P6.2", "Exp by 0", err, api.ErrArg, got)
		return
	}
	check(t, "P6.2", "Exp", got, err, new(big.Int).Exp(number(a), number(e), by))
}

// checkShared holds Gcd and Inverse against the library.
func checkShared(t *testing.T, a, b []byte) {
	t.Helper()
	x, m := number(a), number(b)
	want := new(big.Int).GCD(nil, nil, x, m)
	divisor, e := Gcd(a, b)
	check(t, "P6.3", "Gcd", divisor, e, want)
	divisor, e = Gcd(b, a)
	check(t, "P6.3", "Gcd", divisor, e, want)
	inverse, e := Inverse(a, b)
	switch {
	case m.Cmp(big.NewInt(2)) < 0:
		checkErrno(t, "P6.3", "Inverse by less than 2", e, api.ErrArg, inverse)
	case want.Cmp(big.NewInt(1)) != 0:
		checkErrno(t, "P6.3", "Inverse with a common divisor", e, api.ErrNone, inverse)
	default:
		check(t, "P6.3", "Inverse", inverse, e, new(big.Int).ModInverse(x, m))
	}
}

// edges are numbers at which a carry, a word's end or a limit is near, some with leading noughts.
func edges() [][]byte {
	list := [][]byte{nil, {}, {0}, make([]byte, 9), make([]byte, api.MaxNat), {1}, {2}, {3}, {0xFF}, {0, 0xFF}, {1, 0}, {0xFF, 0xFF}, {0, 0, 5, 0}}
	for _, bits := range []uint{31, 32, 33, 63, 64, 65, 127, 128, 129, 191, 192, 256, 8191} {
		for more := int64(-2); more <= 2; more++ {
			list = append(list, power(bits, more), padded(7, power(bits/2, more)))
		}
	}
	return append(list, all(0xFF, 1023), all(0xFF, api.MaxNat), padded(1023, n(1)), padded(512, all(0xFF, 512)), append(all(0xFF, 1023), 0xFE), append(n(1), make([]byte, 1023)...))
}

func TestExamples(t *testing.T) {
	if q, r, e := Div([]byte{1, 0}, []byte{7}); e != api.OK || string(q) != "\x24" || string(r) != "\x04" {
		t.Errorf("P6.2: Div of 01 00 by 07: %x, %x, %d", q, r, e)
	}
	if x, e := Exp(n(3), n(4), n(5)); e != api.OK || string(x) != "\x01" {
		t.Errorf("P6.2: Exp of 3, 4 by 5: %x, %d", x, e)
	}
	if x, e := Inverse(n(3), n(7)); e != api.OK || string(x) != "\x05" {
		t.Errorf("P6.3: Inverse of 3 by 7: %x, %d", x, e)
	}
}

func TestTrim(t *testing.T) {
	for _, c := range []struct{ a, want string }{
		{"", ""}, {"\x00", ""}, {"\x00\x00\x00", ""}, {"\x01", "\x01"}, {"\x00\x01", "\x01"}, {"\x00\x00\x05\x00", "\x05\x00"},
		{"\x01\x00", "\x01\x00"}, {"\xFF\x00\xFF", "\xFF\x00\xFF"}, {"\x00\x80", "\x80"},
	} {
		if got := Trim([]byte(c.a)); string(got) != c.want {
			t.Errorf("P6.1: Trim(%x): %x, not %x", c.a, got, c.want)
		}
	}
	if got := Trim(nil); len(got) != 0 {
		t.Errorf("P6.1: Trim of nil: %x", got)
	}
}

func TestTrimAndCmpTakeAnyLength(t *testing.T) {
	for _, size := range []int{1024, 1025, 2048, 5000, 1 << 20} {
		long := append(n(7), all(0xA5, size-1)...)
		if got := Trim(long); !bytes.Equal(got, long) {
			t.Errorf("P6.1: Trim of %d bytes: %d bytes", size, len(got))
		}
		if got := Trim(padded(size, n(9))); string(got) != "\x09" {
			t.Errorf("P6.1: Trim of 9 behind %d noughts: %x", size, got)
		}
		if got := Trim(make([]byte, size)); len(got) != 0 {
			t.Errorf("P6.1: Trim of %d noughts: %x", size, got)
		}
		more := slices.Clone(long)
		more[size-1]++
		for _, c := range []struct {
			a, b []byte
			want int
		}{
			{long, long, 0}, {long, padded(3, long), 0}, {padded(size, long), long, 0}, {long, more, -1}, {more, padded(5, long), 1},
			{make([]byte, size), nil, 0}, {nil, long, -1}, {long, nil, 1}, {padded(size, n(1)), n(2), -1}, {n(2), padded(size, n(1)), 1}, {long, long[:size-1], 1},
		} {
			if got := Cmp(c.a, c.b); got != c.want {
				t.Errorf("P6.1: Cmp of %d and %d bytes: %d, not %d", len(c.a), len(c.b), got, c.want)
			}
		}
	}
}

func TestCmp(t *testing.T) {
	for _, c := range []struct {
		a, b string
		want int
	}{
		{"", "", 0}, {"", "\x00", 0}, {"\x00\x00", "", 0}, {"\x00", "\x00\x00\x00", 0}, {"\x00\x01", "\x01", 0}, {"\x01", "\x00\x00\x01", 0},
		{"", "\x01", -1}, {"\x01", "\x00", 1}, {"\x01\x00", "\xFF", 1}, {"\xFF", "\x01\x00", -1}, {"\x00\x00\xFF", "\x01\x00", -1},
		{"\x01\x02\x03", "\x01\x02\x04", -1}, {"\x01\x02\x04", "\x00\x01\x02\x03", 1}, {"\x02\x00", "\x01\xFF", 1}, {"\x7F", "\x80", -1}, {"\xFF", "\xFF", 0},
	} {
		if got := Cmp([]byte(c.a), []byte(c.b)); got != c.want {
			t.Errorf("P6.1: Cmp(%x, %x): %d, not %d", c.a, c.b, got, c.want)
		}
	}
}

func TestNoughtIsNoBytes(t *testing.T) {
	for _, nought := range [][]byte{nil, {}, {0}, {0, 0, 0}, make([]byte, 8), make([]byte, 9), make([]byte, api.MaxNat)} {
		for _, other := range [][]byte{nil, {0}, {0, 0}, {5}, {0, 5}, all(0xFF, 8), all(0xFF, api.MaxNat)} {
			checkSums(t, nought, other)
			checkSums(t, other, nought)
			checkDiv(t, nought, other)
			checkDiv(t, other, nought)
			checkShared(t, nought, other)
			checkShared(t, other, nought)
			checkExp(t, nought, n(3), other)
			checkExp(t, other, nought, n(7))
			checkExp(t, other, n(3), nought)
		}
	}
}

func TestSmallNumbers(t *testing.T) {
	for x := range int64(40) {
		for y := range int64(40) {
			a, b := padded(int(x%3), n(x)), padded(int(y%4), n(y))
			checkSums(t, a, b)
			checkDiv(t, a, b)
			checkShared(t, a, b)
			for z := range int64(12) {
				checkExp(t, a, b, n(z))
			}
		}
	}
}

func TestBytesThroughout(t *testing.T) {
	for x := range 256 {
		for y := range 256 {
			a, b := []byte{byte(x)}, []byte{byte(y)}
			checkSums(t, a, b)
			checkDiv(t, []byte{byte(y), byte(x), 0x5A}, b)
			checkShared(t, a, b)
		}
	}
}

func TestEdges(t *testing.T) {
	list := edges()
	for _, a := range list {
		for _, b := range list {
			checkSums(t, a, b)
			checkDiv(t, a, b)
		}
	}
}

func TestSharedDivisorsAtEdges(t *testing.T) {
	list := edges()
	for i, a := range list {
		for j, b := range list {
			if len(a)+len(b) < 100 || (i+j)%7 == 0 {
				checkShared(t, a, b)
			}
		}
	}
}

func TestCarriesThroughAllBytes(t *testing.T) {
	for size := range api.MaxNat + 1 {
		full := all(0xFF, size)
		s, e := Add(full, n(1))
		if want := append(n(1), make([]byte, size)...); e != api.OK || !bytes.Equal(s, want) {
			t.Errorf("P6.1: Add of %d 255s and 1: %x, %d", size, s, e)
		}
		if size < api.MaxNat {
			d, e := Sub(s, n(1))
			check(t, "P6.1", "Sub of 1 from 1 and noughts", d, e, number(full))
		}
		s, e = Add(full, full)
		check(t, "P6.1", "Add of 255s", s, e, new(big.Int).Lsh(number(full), 1))
		if size%16 == 0 || size < 40 || size > api.MaxNat-20 {
			p, e := Mul(full, full)
			check(t, "P6.1", "Mul of 255s", p, e, new(big.Int).Mul(number(full), number(full)))
			p, e = Mul(full, n(255))
			check(t, "P6.1", "Mul of 255s by 255", p, e, new(big.Int).Mul(number(full), big.NewInt(255)))
		}
	}
}

func TestSubOfNumbersThatHardlyPart(t *testing.T) {
	r := rand.New(rand.NewSource(61))
	for size := 1; size <= api.MaxNat; size++ {
		a := someBytes(r, size)
		a[0], a[size-1] = 0x81, 0x34
		d, e := Sub(a, slices.Clone(a))
		check(t, "P6.1", "Sub of equal numbers", d, e, new(big.Int))
		less := slices.Clone(a)
		less[size-1]--
		if d, e = Sub(a, less); e != api.OK || string(d) != "\x01" {
			t.Errorf("P6.1: Sub of numbers of %d bytes that part in the last byte: %x, %d", size, d, e)
		}
		d, e = Sub(less, a)
		checkErrno(t, "P6.1", "Sub of a number 1 less", e, api.ErrArg, d)
	}
	for _, c := range []struct{ a, b []byte }{{nil, n(1)}, {n(1), n(2)}, {padded(5, n(1)), n(2)}, {n(255), n(256)}, {padded(100, n(255)), n(256)}, {all(0xFE, api.MaxNat), all(0xFF, api.MaxNat)}} {
		d, e := Sub(c.a, c.b)
		checkErrno(t, "P6.1", "Sub of a lesser number", e, api.ErrArg, d)
	}
}

func TestDivEdges(t *testing.T) {
	r := rand.New(rand.NewSource(62))
	for size := 1; size <= api.MaxNat; size += 1 + size/30 {
		a := someBytes(r, size)
		a[0] |= 1
		checkDiv(t, a, n(1))
		checkDiv(t, a, a)
		checkDiv(t, a, padded(api.MaxNat-size, a))
		checkDiv(t, nil, a)
		more, _ := Add(a, n(1))
		if len(more) <= api.MaxNat {
			q, rest, e := Div(a, more)
			check(t, "P6.2", "the quotient by a greater number", q, e, new(big.Int))
			check(t, "P6.2", "the rest by a greater number", rest, e, number(a))
			checkDiv(t, more, a)
		}
		for _, nought := range [][]byte{nil, {}, {0}, make([]byte, 8), make([]byte, api.MaxNat)} {
			q, rest, e := Div(a, nought)
			checkErrno(t, "P6.2", "Div by 0", e, api.ErrArg, q, rest)
		}
	}
}

// wordsAtEdges are the words at which a guessed quotient is likely to be wrong.
func wordsAtEdges() []uint64 {
	return []uint64{0, 1, 2, 3, 1<<32 - 1, 1 << 32, 1<<62 + 1, 1<<63 - 2, 1<<63 - 1, 1 << 63, 1<<63 + 1, 1<<64 - 2, 1<<64 - 1}
}

func TestDivWhereGuessesAreWrong(t *testing.T) {
	list := wordsAtEdges()
	r := rand.New(rand.NewSource(63))
	pick := func(size int) []byte {
		w := make(words, size)
		for i := range w {
			w[i] = list[r.Intn(len(list))]
		}
		return trimmed(w).toBytes()
	}
	for range 100000 {
		checkDiv(t, pick(1+r.Intn(6)), pick(1+r.Intn(4)))
	}
	// Here the second word's mending leaves the guess too great by 1.
	for _, c := range []struct{ u, v words }{
		{words{0, 0, 1 << 63, 1<<63 - 1}, words{1, 0, 1 << 63}},
		{words{3, 0, 1 << 63}, words{1, 0, 1 << 61}},
		{words{0, 0, 0, 1 << 63, 1<<63 - 1}, words{1<<64 - 1, 0, 1 << 63}},
	} {
		checkDiv(t, c.u.toBytes(), c.v.toBytes())
	}
	// A multiple of the divisor, and one less: the rest is 0, and the greatest that it can be.
	for range 2000 {
		v, q := number(pick(1+r.Intn(6))), number(pick(1+r.Intn(6)))
		u := new(big.Int).Mul(v, q)
		checkDiv(t, u.Bytes(), v.Bytes())
		if u.Sign() > 0 {
			checkDiv(t, u.Sub(u, big.NewInt(1)).Bytes(), v.Bytes())
		}
	}
}

func TestNumbersOfEveryKind(t *testing.T) {
	r := rand.New(rand.NewSource(64))
	for range 3000 {
		a, b := someBytes(r, r.Intn(200)), someBytes(r, r.Intn(120))
		checkSums(t, a, b)
		checkSums(t, b, a)
		checkDiv(t, a, b)
		checkShared(t, a, b)
	}
	for range 300 {
		a, b := someBytes(r, r.Intn(api.MaxNat+1)), someBytes(r, r.Intn(api.MaxNat+1))
		checkSums(t, a, b)
		checkDiv(t, a, b)
		checkShared(t, a, b)
	}
}

func TestExpEdges(t *testing.T) {
	for _, m := range [][]byte{{1}, {0, 0, 1}, padded(1023, n(1))} {
		for _, a := range [][]byte{nil, {0}, {1}, {5}, all(0xFF, 40)} {
			for _, e := range [][]byte{nil, {0}, {1}, {9}, all(0xFF, 20)} {
				got, err := Exp(a, e, m)
				check(t, "P6.2", "Exp by 1", got, err, new(big.Int))
			}
		}
	}
	for _, m := range [][]byte{{2}, {0, 7}, {1, 0}, all(0xFF, 8), all(0xFF, 65), all(0xFF, api.MaxNat)} {
		for _, nought := range [][]byte{nil, {}, {0}, make([]byte, 9), make([]byte, api.MaxNat)} {
			for _, a := range [][]byte{nil, {0}, {1}, {7}, all(0xFF, 30), all(0xFF, api.MaxNat)} {
				got, err := Exp(a, nought, m)
				check(t, "P6.2", "a power of 0", got, err, big.NewInt(1))
			}
			got, err := Exp(nought, n(3), m)
			check(t, "P6.2", "a power to the base 0", got, err, new(big.Int))
		}
		for _, a := range [][]byte{m, padded(0, Trim(m)), all(0xFF, 70), all(0x77, api.MaxNat)} {
			checkExp(t, a, n(1), m)
			checkExp(t, a, n(2), m)
			checkExp(t, a, n(65537), m)
		}
	}
	for _, nought := range [][]byte{nil, {}, {0}, make([]byte, api.MaxNat)} {
		for _, e := range [][]byte{nil, {0}, {1}, all(0xFF, api.MaxNat)} {
			got, err := Exp(n(3), e, nought)
			checkErrno(t, "P6.2", "Exp by 0", err, api.ErrArg, got)
		}
	}
}

func TestExpOfEveryKind(t *testing.T) {
	r := rand.New(rand.NewSource(65))
	for range 1500 {
		checkExp(t, someBytes(r, r.Intn(80)), someBytes(r, r.Intn(12)), someBytes(r, r.Intn(60)))
	}
	for exponent := range int64(600) {
		checkExp(t, n(3), padded(int(exponent%3), n(exponent)), power(89, -1))
	}
	for range 10 {
		checkExp(t, someBytes(r, 256), someBytes(r, 256), someBytes(r, 256))
	}
}

func TestExpOf1024Bytes(t *testing.T) {
	m := append(all(0xFF, 1023), 0xF1)
	checkExp(t, all(0xAB, api.MaxNat), all(0xFF, api.MaxNat), m)
	checkExp(t, all(0xFF, api.MaxNat), power(8191, 0), append(n(0x80), make([]byte, 1023)...))
}

func TestInverseEdges(t *testing.T) {
	for _, m := range [][]byte{{2}, {0, 3}, {7}, {1, 0}, all(0xFF, 8), power(64, 0), all(0xFF, 64), all(0xFF, api.MaxNat)} {
		by := number(m)
		less := new(big.Int).Sub(by, big.NewInt(1))
		x, e := Inverse(n(1), m)
		check(t, "P6.3", "Inverse of 1", x, e, big.NewInt(1))
		x, e = Inverse(less.Bytes(), m)
		check(t, "P6.3", "Inverse of one less than the modulus", x, e, less)
		for _, a := range [][]byte{nil, {0}, make([]byte, 40), m, padded(0, Trim(m))} {
			x, e = Inverse(a, m)
			checkErrno(t, "P6.3", "Inverse of a multiple", e, api.ErrNone, x)
		}
		if more := new(big.Int).Add(by, big.NewInt(1)).Bytes(); len(more) <= api.MaxNat {
			x, e = Inverse(more, m)
			check(t, "P6.3", "Inverse of one more than the modulus", x, e, big.NewInt(1))
		}
		checkShared(t, all(0xFD, 90), m)
		checkShared(t, all(0xFB, api.MaxNat), m)
	}
	for _, m := range [][]byte{nil, {}, {0}, make([]byte, api.MaxNat), {1}, {0, 0, 1}, padded(1023, n(1))} {
		for _, a := range [][]byte{nil, {0}, {1}, {2}, all(0xFF, api.MaxNat)} {
			x, e := Inverse(a, m)
			checkErrno(t, "P6.3", "Inverse by 0 or 1", e, api.ErrArg, x)
		}
	}
	for _, c := range []struct{ a, m int64 }{{6, 9}, {2, 4}, {10, 4}, {3, 3}, {14, 21}, {1 << 40, 1 << 20}} {
		x, e := Inverse(n(c.a), n(c.m))
		checkErrno(t, "P6.3", "Inverse with a common divisor", e, api.ErrNone, x)
	}
}

func TestGcdEdges(t *testing.T) {
	long := all(0xF3, api.MaxNat)
	for _, c := range []struct{ a, b, want []byte }{
		{nil, nil, nil}, {[]byte{0}, make([]byte, 30), nil}, {nil, n(9), n(9)}, {n(9), []byte{0, 0}, n(9)}, {nil, long, long}, {long, nil, long}, {long, long, long},
		{n(12), n(18), n(6)}, {n(18), padded(9, n(12)), n(6)}, {n(1), long, n(1)}, {n(35), n(64), n(1)}, {power(64, 0), power(40, 0), power(40, 0)},
		{power(8191, -1), power(8190, -1), n(1)}, {all(0xFF, 1024), all(0xFF, 768), all(0xFF, 256)},
	} {
		got, e := Gcd(c.a, c.b)
		check(t, "P6.3", "Gcd", got, e, number(c.want))
	}
}

// fibonacci are two numbers that follow each other in Fibonacci's row: no others of their length have Euclid take more steps.
func fibonacci(bits int) ([]byte, []byte) {
	a, b := big.NewInt(1), big.NewInt(1)
	for b.BitLen() < bits {
		a.Add(a, b)
		a, b = b, a
	}
	return a.Bytes(), b.Bytes()
}

func TestGcdAndInverseOfManySteps(t *testing.T) {
	for _, bits := range []int{64, 128, 500, 1024, 8191, 8192} {
		a, b := fibonacci(bits)
		checkShared(t, a, b)
		checkShared(t, b, a)
	}
}

// calls are the calls that take only numbers of at most 1024 bytes, with how many they take and the error of theirs.
func calls() []struct {
	name  string
	takes int
	call  func(a ...[]byte) ([][]byte, api.Errno)
} {
	two := func(f func(a, b []byte) ([]byte, api.Errno)) func(a ...[]byte) ([][]byte, api.Errno) {
		return func(a ...[]byte) ([][]byte, api.Errno) {
			x, e := f(a[0], a[1])
			return [][]byte{x}, e
		}
	}
	return []struct {
		name  string
		takes int
		call  func(a ...[]byte) ([][]byte, api.Errno)
	}{
		{"Add", 2, two(Add)}, {"Sub", 2, two(Sub)}, {"Mul", 2, two(Mul)}, {"Gcd", 2, two(Gcd)}, {"Inverse", 2, two(Inverse)},
		{"Div", 2, func(a ...[]byte) ([][]byte, api.Errno) {
			q, r, e := Div(a[0], a[1])
			return [][]byte{q, r}, e
		}},
		{"Exp", 3, func(a ...[]byte) ([][]byte, api.Errno) {
			x, e := Exp(a[0], a[1], a[2])
			return [][]byte{x}, e
		}},
	}
}

func TestTooLong(t *testing.T) {
	longs := [][]byte{make([]byte, 1025), padded(1024, n(1)), padded(1024, n(7)), all(0xFF, 1025), append(n(1), make([]byte, 1024)...), make([]byte, 2048), make([]byte, 1<<20)}
	others := [][]byte{nil, {0}, {1}, {7}, all(0xFF, api.MaxNat)}
	for _, c := range calls() {
		for place := range c.takes {
			for _, long := range longs {
				for _, other := range others {
					args := [][]byte{other, other, other}
					args[place] = long
					answers, e := c.call(args...)
					checkErrno(t, "P6.1, P6.2, P6.3", c.name, e, api.ErrLong, answers...)
				}
			}
		}
		answers, e := c.call(longs[0], longs[0], longs[0])
		checkErrno(t, "P6.1, P6.2, P6.3", c.name, e, api.ErrLong, answers...)
	}
}

func TestNumbersOf1024Bytes(t *testing.T) {
	for _, a := range [][]byte{make([]byte, 1024), padded(1023, n(1)), padded(1023, n(7)), padded(1000, all(0xD7, 24)), append(n(1), make([]byte, 1023)...)} {
		for _, b := range [][]byte{make([]byte, 1024), padded(1023, n(1)), padded(1023, n(5)), padded(1016, all(0xFF, 8)), all(0xFF, 1024)} {
			checkSums(t, a, b)
			checkSums(t, b, a)
			checkDiv(t, a, b)
			checkDiv(t, b, a)
			checkShared(t, a, b)
			checkShared(t, b, a)
			checkExp(t, b, padded(1022, n(513)), a)
			checkExp(t, a, padded(1022, n(513)), b)
		}
	}
}

// withRoom is b with spare room behind it, and the whole of that memory.
func withRoom(b []byte) ([]byte, []byte) {
	whole := append(slices.Clone(b), all(0x5C, 40)...)
	return whole[:len(b)], whole
}

func TestArgumentsStayAsTheyAre(t *testing.T) {
	list := [][]byte{nil, {0}, {0, 0, 7}, {9}, {1, 0, 0}, all(0xFF, 8), all(0xFE, 17), padded(3, all(0x91, 33)), power(512, -569)}
	for _, a := range list {
		for _, b := range list {
			x, wholeA := withRoom(a)
			y, wholeB := withRoom(b)
			z, wholeC := withRoom(n(12345))
			Trim(x)
			Cmp(x, y)
			for _, c := range calls() {
				c.call(x, y, z)
			}
			Exp(z, x, y)
			for _, w := range []struct{ was, is []byte }{{a, wholeA}, {b, wholeB}, {n(12345), wholeC}} {
				if !bytes.Equal(w.is, append(slices.Clone(w.was), all(0x5C, 40)...)) {
					t.Errorf("P6.4: what was handed in, %x, is now %x", w.was, w.is)
				}
			}
		}
	}
}

// spoil changes an answer and its spare room.
func spoil(b []byte) {
	b = b[:cap(b)]
	for i := range b {
		b[i] ^= 0xA5
	}
}

func TestAnswersAreNewMemory(t *testing.T) {
	list := [][]byte{{0}, {1}, {0, 0, 7}, {9}, {1, 0, 0}, all(0xFF, 8), all(0xFE, 17), padded(3, all(0x91, 33)), power(512, -569)}
	for _, a := range list {
		for _, b := range list {
			for _, c := range calls() {
				x, y, z := slices.Clone(a), slices.Clone(b), n(12345)
				first, e := c.call(x, y, z)
				want := make([][]byte, len(first))
				for i := range first {
					want[i] = slices.Clone(first[i])
				}
				for i := range first {
					spoil(first[i])
					for j := i + 1; j < len(first); j++ {
						if !bytes.Equal(first[j], want[j]) {
							t.Errorf("P6.4: %s: answer %d shares memory with answer %d", c.name, j, i)
						}
					}
				}
				if !bytes.Equal(x, a) || !bytes.Equal(y, b) || !bytes.Equal(z, n(12345)) {
					t.Errorf("P6.4: %s(%x, %x) answers memory of its arguments", c.name, a, b)
				}
				again, e2 := c.call(x, y, z)
				if e != e2 || !slices.EqualFunc(again, want, bytes.Equal) {
					t.Errorf("P6.4: %s(%x, %x): first %x, then %x", c.name, a, b, want, again)
				}
			}
		}
	}
}

func TestTrimIsNewMemory(t *testing.T) {
	for _, a := range [][]byte{{1, 2, 3}, {0, 0, 4, 0}, all(0xFF, 2000), padded(2000, all(0xFF, 2000))} {
		x, whole := withRoom(a)
		was := slices.Clone(whole)
		got := Trim(x)
		want := slices.Clone(got)
		spoil(got)
		if !bytes.Equal(whole, was) {
			t.Errorf("P6.4: Trim answers memory of its argument")
		}
		got = Trim(x)
		spoil(x)
		if !bytes.Equal(got, want) {
			t.Errorf("P6.4: Trim keeps its argument's memory: %x, not %x", got, want)
		}
	}
}

func TestArgumentsAreNotKept(t *testing.T) {
	for _, c := range calls() {
		x, y, z := all(0x35, 40), all(0x17, 30), all(0x21, 20)
		answers, e := c.call(x, y, z)
		want := make([][]byte, len(answers))
		for i := range answers {
			want[i] = slices.Clone(answers[i])
		}
		spoil(x)
		spoil(y)
		spoil(z)
		if !slices.EqualFunc(answers, want, bytes.Equal) {
			t.Errorf("P6.4: %s: changing what was handed in changes its answer", c.name)
		}
		again, e2 := c.call(all(0x35, 40), all(0x17, 30), all(0x21, 20))
		if e != e2 || !slices.EqualFunc(again, want, bytes.Equal) {
			t.Errorf("P6.4: %s: changing what was handed in changes a later answer", c.name)
		}
	}
}

func TestNoLeadingNoughts(t *testing.T) {
	r := rand.New(rand.NewSource(66))
	for range 2000 {
		a, b, m := padded(r.Intn(20), someBytes(r, r.Intn(40))), padded(r.Intn(20), someBytes(r, r.Intn(40))), padded(r.Intn(5), someBytes(r, r.Intn(10)))
		for _, c := range calls() {
			answers, e := c.call(a, b, m)
			for _, x := range answers {
				if len(x) > 0 && x[0] == 0 {
					t.Errorf("P6.1: %s(%x, %x, %x) answers %x, %d", c.name, a, b, m, x, e)
				}
			}
		}
	}
}
