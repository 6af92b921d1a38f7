package flate

// writer puts bits into bytes, from the lowest one on.
type writer struct {
	out []byte
	// free is how many bits of the last byte are left.
	free int
}

// bit puts one bit.
func (w *writer) bit(x int) {
	if w.free == 0 {
		w.out = append(w.out, 0)
		w.free = byteBits
	}
	w.out[len(w.out)-1] |= byte(x << (byteBits - w.free))
	w.free--
}

// number puts a number, its lowest bit first.
func (w *writer) number(x, width int) {
	for i := range width {
		w.bit(x >> i & 1)
	}
}

// code puts a code, its first bit first.
func (w *writer) code(x, width int) {
	for i := range width {
		w.bit(x >> (width - 1 - i) & 1)
	}
}

// alignedNumber puts two bytes, the lesser first, behind all bits so far.
func (w *writer) alignedNumber(x int) {
	w.out = append(w.out, byte(x), byte(x>>byteBits))
	w.free = 0
}

// header puts a block's beginning.
func (w *writer) header(last bool, kind int) {
	if last {
		w.bit(1)
	} else {
		w.bit(0)
	}
	w.number(kind, 2)
}

// copying puts a copy of so many bytes that stand so far back.
func (w *writer) copying(size, back int) {
	if size == longCopy {
		// The sign ahead of it could tell it too, with more bits.
		w.code(fixedCode(lastCopy))
	} else {
		step := greatestStep(size-shortCopy, lengthGroup)
		w.code(fixedCode(firstCopy + step))
		w.rest(size-shortCopy, step, lengthGroup)
	}
	step := greatestStep(back-nearest, distanceGroup)
	w.code(step, fixedWidth)
	w.rest(back-nearest, step, distanceGroup)
}

// rest puts the bits that tell x beyond the least number of its step.
func (w *writer) rest(x, step, group int) {
	least, width := bitsMore(step, group)
	w.number(x-least, width)
}

// greatestStep is the last step whose least number isn't beyond x.
func greatestStep(x, group int) int {
	step := 0
	for {
		if least, _ := bitsMore(step+1, group); least > x {
			return step
		}
		step++
	}
}
