package double

import (
	"math"
	"strings"
)

const (
	// At 10^highest and beyond, everything is INF, and below 10^lowest everything is 0.
	highest = 309
	lowest  = -324

	// From farPower on a power's further digits change nothing: the other digits of a text are too few to make up for it.
	farPower = 10000
)

// decimal is a number as its text tells it: digits, without leading noughts, times ten to the power, with a minus or none.
type decimal struct {
	minus  bool
	digits string
	power  int
}

// read is the number that a collapsed text tells: does it tell one?
func read(s string) (decimal, bool) {
	s, minus := cutSign(s)
	power := 0
	if at := strings.IndexAny(s, "eE"); at >= 0 {
		var ok bool
		if power, ok = readPower(s[at+1:]); !ok {
			return decimal{}, false
		}
		s = s[:at]
	}
	// A second point stays in the part behind the first one, and is no digit.
	whole, part, _ := strings.Cut(s, ".")
	digits := whole + part
	if !allDigits(digits) {
		return decimal{}, false
	}
	return decimal{minus, strings.TrimLeft(digits, "0"), power - len(part)}, true
}

// readPower is the number behind an e: is it one?
func readPower(s string) (int, bool) {
	s, minus := cutSign(s)
	if !allDigits(s) {
		return 0, false
	}
	power := 0
	for i := 0; i < len(s) && power < farPower; i++ {
		power = 10*power + int(s[i]-'0')
	}
	if minus {
		power = -power
	}
	return power, true
}

// cutSign is s without its sign: is that a minus?
func cutSign(s string) (string, bool) {
	if s == "" || s[0] != '+' && s[0] != '-' {
		return s, false
	}
	return s[1:], s[0] == '-'
}

// allDigits: is s digits, at least one?
func allDigits(s string) bool {
	for i := range len(s) {
		if s[i] < '0' || '9' < s[i] {
			return false
		}
	}
	return s != ""
}

// value is the double that is nearest to the number.
func (d decimal) value() float64 {
	x := d.distance()
	if d.minus {
		return math.Copysign(x, -1)
	}
	return x
}

// distance is how far from 0 the double lies that is nearest to the number.
func (d decimal) distance() float64 {
	// The number lies from 10^(top-1) on and below 10^top.
	top := len(d.digits) + d.power
	switch {
	case d.digits == "" || top <= lowest:
		return 0
	case top > highest:
		return math.Inf(1)
	case d.power < 0:
		return nearest(number(d.digits), tenTo(-d.power))
	}
	return nearest(times(number(d.digits), tenTo(d.power)), []byte{1})
}
