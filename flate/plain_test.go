package flate

import (
	"bytes"
	"slices"
	"strings"

	"lanyard/api"
)

// This file holds deflating and inflating by the plain words of the chapter, upon texts of the signs 0 and 1, for the tests to hold the package against.

// low is x as so many bits, its lowest first.
func low(x, width int) string {
	s := make([]byte, width)
	for i := range s {
		s[i] = byte('0' + x>>i&1)
	}
	return string(s)
}

// high is x as so many bits, its highest first.
func high(x, width int) string {
	s := []byte(low(x, width))
	slices.Reverse(s)
	return string(s)
}

// packed are bits as bytes, from each byte's lowest bit on, filled up with noughts.
func packed(bits string) []byte {
	out := make([]byte, (len(bits)+7)/8)
	for i, c := range bits {
		if c == '1' {
			out[i/8] |= 1 << (i % 8)
		}
	}
	return out
}

// unpacked are bytes as bits.
func unpacked(b []byte) string {
	var s strings.Builder
	for _, c := range b {
		s.WriteString(low(int(c), 8))
	}
	return s.String()
}

// row is where a sign's numbers begin, and how many bits it has more.
type row struct{ first, more int }

// lengthRows are the lengths of the signs 257 to 285, as the chapter lists them.
var lengthRows = []row{
	{3, 0}, {4, 0}, {5, 0}, {6, 0}, {7, 0}, {8, 0}, {9, 0}, {10, 0},
	{11, 1}, {13, 1}, {15, 1}, {17, 1}, {19, 2}, {23, 2}, {27, 2}, {31, 2},
	{35, 3}, {43, 3}, {51, 3}, {59, 3}, {67, 4}, {83, 4}, {99, 4}, {115, 4},
	{131, 5}, {163, 5}, {195, 5}, {227, 5}, {258, 0},
}

// distanceRows are the distances 0 to 29.
var distanceRows = []row{
	{1, 0}, {2, 0}, {3, 0}, {4, 0}, {5, 1}, {7, 1}, {9, 2}, {13, 2},
	{17, 3}, {25, 3}, {33, 4}, {49, 4}, {65, 5}, {97, 5}, {129, 6}, {193, 6},
	{257, 7}, {385, 7}, {513, 8}, {769, 8}, {1025, 9}, {1537, 9}, {2049, 10}, {3073, 10},
	{4097, 11}, {6145, 11}, {8193, 12}, {12289, 12}, {16385, 13}, {24577, 13},
}

// rowOf is the last row that doesn't begin beyond x.
func rowOf(rows []row, x int) int {
	for i := len(rows) - 1; ; i-- {
		if rows[i].first <= x {
			return i
		}
	}
}

// fixedBits is the fixed code of a sign.
func fixedBits(sign int) string {
	switch {
	case sign <= 143:
		return high(0b00110000+sign, 8)
	case sign <= 255:
		return high(0b110010000+sign-144, 9)
	case sign <= 279:
		return high(sign-256, 7)
	default:
		return high(0b11000000+sign-280, 8)
	}
}

// fixedCopy are the bits of a copy by the fixed codes.
func fixedCopy(length, distance int) string {
	i, j := rowOf(lengthRows, length), rowOf(distanceRows, distance)
	return fixedBits(257+i) + low(length-lengthRows[i].first, lengthRows[i].more) +
		high(j, 5) + low(distance-distanceRows[j].first, distanceRows[j].more)
}

// plainDeflate is Deflate by the chapter.
func plainDeflate(b []byte) []byte {
	bits := strings.Builder{}
	bits.WriteString("110")
	for at := 0; at < len(b); {
		best, far := 0, 0
		for distance := 512; distance >= 1; distance-- {
			if distance > at {
				continue
			}
			for length := 3; length <= 258 && at+length <= len(b); length++ {
				if b[at+length-1] != b[at-distance+length-1] || !bytes.Equal(b[at:at+2], b[at-distance:at-distance+2]) {
					break
				}
				if length >= best {
					best, far = length, distance
				}
			}
		}
		if best == 0 {
			bits.WriteString(fixedBits(int(b[at])))
			at++
		} else {
			bits.WriteString(fixedCopy(best, far))
			at += best
		}
	}
	bits.WriteString("0000000")
	return packed(bits.String())
}

// book are the signs of codes by the codes' bits, and with what bits codes begin.
type book struct {
	signs  map[string]int
	begins map[string]bool
}

// codeBook is the book of codes of such lengths.
func codeBook(lengths []int) book {
	b, code := book{map[string]int{}, map[string]bool{}}, 0
	for width := 1; width <= 15; width++ {
		for sign, length := range lengths {
			if length == width {
				bits := high(code, width)
				b.signs[bits] = sign
				for i := range bits {
					b.begins[bits[:i]] = true
				}
				code++
			}
		}
		code <<= 1
	}
	return b
}

// fixedBook and fixedFar are the books of the fixed codes.
var fixedBook, fixedFar = func() (book, book) {
	lengths := make([]int, 288)
	for sign := range lengths {
		lengths[sign] = len(fixedBits(sign))
	}
	return codeBook(lengths), codeBook([]int{5, 5, 5, 5, 5, 5, 5, 5, 5, 5, 5, 5, 5, 5, 5, 5, 5, 5, 5, 5, 5, 5, 5, 5, 5, 5, 5, 5, 5, 5, 5, 5})
}()

// codeOf are the bits of a sign in a book.
func codeOf(b book, sign int) string {
	for bits, other := range b.signs {
		if other == sign {
			return bits
		}
	}
	panic("no code")
}

// rightCode tells whether a code of such lengths is right.
func rightCode(lengths []int, mayBeOne, mayBeNone bool) bool {
	sum, codes, ones := 0, 0, 0
	for _, length := range lengths {
		if length > 0 {
			sum += 1 << (15 - length)
			codes++
		}
		if length == 1 {
			ones++
		}
	}
	return sum == 1<<15 || mayBeOne && codes == 1 && ones == 1 || mayBeNone && codes == 0
}

// plain inflates by the chapter; it stops at its first fault.
type plain struct {
	bits  string
	at    int
	most  int
	text  []byte
	fault api.Errno
}

func (p *plain) fail(e api.Errno) {
	if p.fault == api.OK {
		p.fault = e
	}
}

func (p *plain) take(width int) int {
	if p.fault != api.OK {
		return 0
	}
	if len(p.bits)-p.at < width {
		p.fail(api.ErrShort)
		return 0
	}
	x := 0
	for i, c := range p.bits[p.at : p.at+width] {
		if c == '1' {
			x += 1 << i
		}
	}
	p.at += width
	return x
}

// sign looks with each bit more whether a code begins so.
func (p *plain) sign(b book) int {
	for from := p.at; p.fault == api.OK; {
		if sign, ok := b.signs[p.bits[from:p.at]]; ok {
			return sign
		}
		if !b.begins[p.bits[from:p.at]] {
			p.fail(api.ErrForm)
		}
		p.take(1)
	}
	return 0
}

func (p *plain) stored() {
	for p.at%8 != 0 {
		p.at++
	}
	length := p.take(16)
	other := p.take(16)
	if p.fault == api.OK && length+other != 65535 {
		p.fail(api.ErrForm)
	}
	if len(p.text)+length > p.most {
		p.fail(api.ErrLong)
	}
	if len(p.bits)-p.at < 8*length {
		p.fail(api.ErrShort)
	}
	for i := 0; i < length && p.fault == api.OK; i++ {
		p.text = append(p.text, byte(p.take(8)))
	}
}

func (p *plain) own() {
	signs, distances, given := p.take(5), p.take(5), p.take(4)
	if signs >= 30 || distances >= 30 {
		p.fail(api.ErrForm)
	}
	signs, distances, given = signs+257, distances+1, given+4
	of := make([]int, 19)
	for _, sign := range []int{16, 17, 18, 0, 8, 7, 9, 6, 10, 5, 11, 4, 12, 3, 13, 2, 14, 1, 15}[:given] {
		of[sign] = p.take(3)
	}
	if !rightCode(of, true, false) {
		p.fail(api.ErrForm)
	}
	b := codeBook(of)
	var lengths []int
	for len(lengths) < signs+distances && p.fault == api.OK {
		sign := p.sign(b)
		again, times := sign, 1
		switch {
		case p.fault != api.OK:
		case sign == 16 && len(lengths) == 0:
			p.fail(api.ErrForm)
		case sign == 16:
			again, times = lengths[len(lengths)-1], 3+p.take(2)
		case sign == 17:
			again, times = 0, 3+p.take(3)
		case sign == 18:
			again, times = 0, 11+p.take(7)
		}
		for range times {
			lengths = append(lengths, again)
		}
	}
	if p.fault == api.OK && (len(lengths) > signs+distances || lengths[256] == 0 || !rightCode(lengths[:signs], false, false) || !rightCode(lengths[signs:], true, true)) {
		p.fail(api.ErrForm)
	}
	if p.fault == api.OK {
		p.signs(codeBook(lengths[:signs]), codeBook(lengths[signs:]))
	}
}

func (p *plain) signs(b, far book) {
	for p.fault == api.OK {
		sign := p.sign(b)
		if p.fault != api.OK || sign == 256 {
			return
		}
		if sign < 256 {
			if len(p.text) >= p.most {
				p.fail(api.ErrLong)
			}
			p.text = append(p.text, byte(sign))
			continue
		}
		if sign > 285 {
			p.fail(api.ErrForm)
			return
		}
		length := lengthRows[sign-257].first + p.take(lengthRows[sign-257].more)
		d := p.sign(far)
		if d >= 30 {
			p.fail(api.ErrForm)
			return
		}
		distance := distanceRows[d].first + p.take(distanceRows[d].more)
		if distance > len(p.text) {
			p.fail(api.ErrForm)
		}
		if len(p.text)+length > p.most {
			p.fail(api.ErrLong)
		}
		for i := 0; i < length && p.fault == api.OK; i++ {
			p.text = append(p.text, p.text[len(p.text)-distance])
		}
	}
}

// plainInflate is Inflate by the chapter.
func plainInflate(b []byte, most int) ([]byte, int, api.Errno) {
	if most < 0 {
		return nil, 0, api.ErrArg
	}
	p := plain{bits: unpacked(b), most: most}
	for last := false; !last && p.fault == api.OK; {
		last = p.take(1) == 1
		kind := p.take(2)
		switch {
		case p.fault != api.OK:
		case kind == 0:
			p.stored()
		case kind == 1:
			p.signs(fixedBook, fixedFar)
		case kind == 2:
			p.own()
		case kind == 3:
			p.fail(api.ErrForm)
		}
	}
	if p.fault != api.OK {
		return nil, 0, p.fault
	}
	return p.text, (p.at + 7) / 8, api.OK
}
