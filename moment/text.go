package moment

import (
	"strconv"
	"strings"

	"lanyard/api"
)

const (
	lastHour   = 23
	dayEnd     = 24 // the hour that a text may have at the end of its day
	lastMinute = 59
	lastSecond = 59

	// counted is how many of a fraction's digits count, mostDigits how many it may have.
	counted    = 3
	mostDigits = 9

	longestOffset = 14 * hourLong
)

// need breaks the reading off by an error, unless all is well.
func need(well bool, err api.Errno) {
	if !well {
		panic(err)
	}
}

// reader goes through a text, and breaks off at the first byte that is no moment's.
type reader struct {
	left string
}

// has takes the next byte, if it is this one.
func (r *reader) has(c byte) bool {
	if r.left == "" || r.left[0] != c {
		return false
	}
	r.left = r.left[1:]
	return true
}

// sign takes the next byte, which must be this one.
func (r *reader) sign(c byte) {
	need(r.has(c), api.ErrForm)
}

// digits takes the digits that are next.
func (r *reader) digits() string {
	all := r.left
	r.left = strings.TrimLeft(all, "0123456789")
	return all[:len(all)-len(r.left)]
}

// number takes one of just so many digits.
func (r *reader) number(size int) int {
	digits := r.digits()
	need(len(digits) == size, api.ErrForm)
	return value(digits)
}

// time takes all of the text, and is the milliseconds that it says.
func (r *reader) time() int {
	ms := r.days() * dayLong
	r.sign('T')
	ms += r.timeOfDay()
	ms -= r.zone()
	need(r.left == "", api.ErrForm)
	return ms
}

// days takes a date, and is how far it lies behind 1970-01-01.
func (r *reader) days() int {
	year := r.number(4)
	r.sign('-')
	month := r.number(2)
	r.sign('-')
	days, err := Days(year, month, r.number(2))
	need(err == api.OK, api.ErrForm)
	return days
}

// timeOfDay takes hour, minute, second and fraction, and is how far they lie behind the day's begin.
func (r *reader) timeOfDay() int {
	hour := r.number(2)
	r.sign(':')
	minute := r.number(2)
	r.sign(':')
	second := r.number(2)
	fraction := r.fraction()
	need(minute <= lastMinute && second <= lastSecond, api.ErrForm)
	// Those digits of the fraction that count for nothing must be 0 too at the day's end.
	atEnd := hour == dayEnd && minute == 0 && second == 0 && strings.Trim(fraction, "0") == ""
	need(hour <= lastHour || atEnd, api.ErrForm)
	thousandths := value((fraction + "000")[:counted])
	return hour*hourLong + minute*minuteLong + second*secondLong + thousandths
}

// fraction takes a point and digits, or nothing, and is the digits.
func (r *reader) fraction() string {
	if !r.has('.') {
		return ""
	}
	digits := r.digits()
	need(1 <= len(digits) && len(digits) <= mostDigits, api.ErrForm)
	return digits
}

// zone takes Z or an offset, and is how far the text's clock goes ahead of that of Z.
func (r *reader) zone() int {
	switch {
	case r.has('Z'):
		return 0
	case r.has('-'):
		return -r.offset()
	}
	r.sign('+')
	return r.offset()
}

// offset takes hours and minutes, and is how long they are.
func (r *reader) offset() int {
	hours := r.number(2)
	r.sign(':')
	minutes := r.number(2)
	offset := hours*hourLong + minutes*minuteLong
	need(minutes <= lastMinute && offset <= longestOffset, api.ErrForm)
	return offset
}

// value is the number that a few digits tell.
func value(digits string) int {
	n := 0
	for i := range len(digits) {
		n = 10*n + int(digits[i]-'0')
	}
	return n
}

// timeText is the text of the time that lies so many milliseconds behind the day's begin, with a fraction if it isn't 0.
func timeText(ms int) string {
	text := padded(ms/hourLong, 2) + ":" + padded(ms%hourLong/minuteLong, 2) + ":" + padded(ms%minuteLong/secondLong, 2)
	if fraction := ms % secondLong; fraction != 0 {
		text += "." + padded(fraction, counted)
	}
	return text
}

// padded is a number with so many digits, the first ones 0 where it has fewer.
func padded(n, size int) string {
	digits := strconv.Itoa(n)
	return strings.Repeat("0", size-len(digits)) + digits
}
