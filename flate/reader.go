package flate

import (
	"lanyard/api"
)

// reader takes bits from bytes and makes a text of them. It breaks off by a panic with an api.Errno, as soon as a fault is met.
type reader struct {
	from []byte
	// at is how many bits were taken.
	at   int
	text []byte
	most int
	// fixed and fixedBack are made when a block first asks for them.
	fixed, fixedBack *codes
}

// require breaks off with that fault, unless ok.
func require(ok bool, fault api.Errno) {
	if !ok {
		panic(fault)
	}
}

// number takes a number, its lowest bit first.
func (r *reader) number(width int) int {
	require(width <= byteBits*len(r.from)-r.at, api.ErrShort)
	x := 0
	for i := range width {
		x |= int(r.from[r.at/byteBits]>>(r.at%byteBits)&1) << i
		r.at++
	}
	return x
}

// block takes one block, and tells whether there is another one.
func (r *reader) block() bool {
	last := r.number(1) == 1
	switch r.number(2) {
	case kindStored:
		r.storedBlock()
	case kindFixed:
		r.fixedBlock()
	case kindOwn:
		r.ownBlock()
	default:
		panic(api.ErrForm)
	}
	return !last
}

// storedBlock takes a block of bytes as they are.
func (r *reader) storedBlock() {
	start := (r.at + byteBits - 1) / byteBits
	r.at = start * byteBits
	size := r.number(16)
	require(r.number(16) == size^complement, api.ErrForm)
	r.room(size)
	start += 4
	require(size <= len(r.from)-start, api.ErrShort)
	r.text = append(r.text, r.from[start:start+size]...)
	r.at += size * byteBits
}

// fixedBlock takes a block by the fixed codes.
func (r *reader) fixedBlock() {
	if r.fixed == nil {
		r.fixed = newCodes(lengthsOf(fixedSigns, func(sign int) int {
			_, width := fixedCode(sign)
			return width
		}))
		r.fixedBack = newCodes(lengthsOf(fixedDistances, func(int) int { return fixedWidth }))
	}
	r.signs(r.fixed, r.fixedBack)
}

// ownBlock takes a block by codes of its own.
func (r *reader) ownBlock() {
	signs := r.number(5) + firstCopy
	distances := r.number(5) + 1
	given := r.number(4) + 4
	require(signs <= mostSigns && distances <= mostDistances, api.ErrForm)

	lengths := r.lengths(r.lengthCodes(given), signs+distances)
	require(lengths[endOfBlock] > 0, api.ErrForm)
	c, back := newCodes(lengths[:signs]), newCodes(lengths[signs:])
	require(c.full(), api.ErrForm)
	require(back.full() || back.single() || back.none(), api.ErrForm)
	r.signs(c, back)
}

// lengthCodes takes the codes by which the lengths of a block's own codes are told.
func (r *reader) lengthCodes(given int) *codes {
	order := [...]int{16, 17, 18, 0, 8, 7, 9, 6, 10, 5, 11, 4, 12, 3, 13, 2, 14, 1, 15}
	var lengths [len(order)]int
	for _, sign := range order[:given] {
		lengths[sign] = r.number(3)
	}
	c := newCodes(lengths[:])
	require(c.full() || c.single(), api.ErrForm)
	return c
}

// lengths takes as many lengths of codes as there are places.
func (r *reader) lengths(c *codes, places int) []int {
	lengths := make([]int, 0, places)
	put := func(length, times int) {
		require(times <= places-len(lengths), api.ErrForm)
		for range times {
			lengths = append(lengths, length)
		}
	}
	for len(lengths) < places {
		switch sign := r.sign(c); sign {
		case 16:
			// That there is none ahead shows before the bits that tell how often.
			require(len(lengths) > 0, api.ErrForm)
			put(lengths[len(lengths)-1], 3+r.number(2))
		case 17:
			put(0, 3+r.number(3))
		case 18:
			put(0, 11+r.number(7))
		default:
			put(sign, 1)
		}
	}
	return lengths
}

// sign takes a sign by its code.
func (r *reader) sign(c *codes) int {
	code, first, shorter := 0, 0, 0
	// When no longer code is left, none begins with the bits so far; of no codes at all that shows ahead of the first bit.
	for width := 1; shorter < len(c.signs); width++ {
		code = code<<1 | r.number(1)
		count := c.counts[width]
		if code-first < count {
			return c.signs[shorter+code-first]
		}
		first = (first + count) << 1
		shorter += count
	}
	panic(api.ErrForm)
}

// signs takes the bytes and copies of a block, up to its end.
func (r *reader) signs(c, back *codes) {
	for {
		switch sign := r.sign(c); {
		case sign < endOfBlock:
			r.room(1)
			r.text = append(r.text, byte(sign))
		case sign == endOfBlock:
			return
		default:
			r.copying(sign, back)
		}
	}
}

// copying takes the rest of a copy that began with that sign, and copies. It goes byte by byte, as a copy may reach into itself.
func (r *reader) copying(sign int, back *codes) {
	require(sign <= lastCopy, api.ErrForm)
	size := longCopy
	if sign < lastCopy {
		size = shortCopy + r.step(sign-firstCopy, lengthGroup)
	}
	distance := r.sign(back)
	require(distance < mostDistances, api.ErrForm)
	far := nearest + r.step(distance, distanceGroup)
	require(far <= len(r.text), api.ErrForm)
	r.room(size)
	for range size {
		r.text = append(r.text, r.text[len(r.text)-far])
	}
}

// step takes the bits more of the i-th step, and is the number that they tell.
func (r *reader) step(i, group int) int {
	least, width := bitsMore(i, group)
	return least + r.number(width)
}

// room breaks off, unless so many bytes may come yet.
func (r *reader) room(size int) {
	require(size <= r.most-len(r.text), api.ErrLong)
}

// codes are Huffman codes: how many there are of each length, and their signs, those of shorter codes first.
type codes struct {
	counts [longestCode + 1]int
	signs  []int
}

// newCodes are the codes of such lengths; 0: the sign has none.
func newCodes(lengths []int) *codes {
	c := &codes{}
	for _, length := range lengths {
		c.counts[length]++
	}
	c.counts[0] = 0
	var next [longestCode + 1]int
	total := 0
	for width, count := range c.counts {
		next[width] = total
		total += count
	}
	c.signs = make([]int, total)
	for sign, length := range lengths {
		if length > 0 {
			c.signs[next[length]] = sign
			next[length]++
		}
	}
	return c
}

// full tells whether each row of bits begins with just one of the codes.
func (c *codes) full() bool {
	sum := 0
	for width := 1; width <= longestCode; width++ {
		sum += c.counts[width] << (longestCode - width)
	}
	return sum == 1<<longestCode
}

// single tells whether there is one code, of one bit.
func (c *codes) single() bool {
	return len(c.signs) == 1 && c.counts[1] == 1
}

// none tells whether there is no code.
func (c *codes) none() bool {
	return len(c.signs) == 0
}

// lengthsOf are the lengths of so many signs' codes.
func lengthsOf(signs int, length func(sign int) int) []int {
	lengths := make([]int, signs)
	for sign := range lengths {
		lengths[sign] = length(sign)
	}
	return lengths
}
