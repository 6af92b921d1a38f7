package der

import (
	"bytes"

	"lanyard/api"
	"lanyard/nat"
	"lanyard/rsa"
)

// reading is the error by which read broke off, if it did.
func reading(read func()) (err api.Errno) {
	defer func() {
		if fault := recover(); fault != nil {
			err = fault.(api.Errno)
		}
	}()
	read()
	return api.OK
}

// need breaks the reading off by an error, unless all is well.
func need(well bool, err api.Errno) {
	if !well {
		panic(err)
	}
}

// reader goes through bytes, and breaks off at the first that are no piece's.
type reader struct {
	left []byte
}

// next are so many bytes more.
func (r *reader) next(count int) []byte {
	need(count <= len(r.left), api.ErrShort)
	b := r.left[:count]
	r.left = r.left[count:]
	return b
}

// piece is the next one, with memory of its own.
func (r *reader) piece() api.Piece {
	tag := r.next(1)[0]
	need(isTag(tag), api.ErrForm)
	return api.Piece{Tag: tag, Body: bytes.Clone(r.next(r.length()))}
}

// length is the next piece's, in the one way in which it may be written.
func (r *reader) length() int {
	first := int(r.next(1)[0])
	if first < shortEnd {
		return first
	}
	count := first - longBase
	need(1 <= count && count <= mostBytes, api.ErrForm)
	digits, length := r.next(count), 0
	for _, d := range digits {
		length = length<<8 | int(d)
	}
	need(digits[0] != 0 && length >= shortEnd, api.ErrForm)
	need(length < tooLong, api.ErrLong)
	return length
}

// pieces are those of b, up to its end.
func pieces(b []byte) []api.Piece {
	var ps []api.Piece
	r := reader{left: b}
	for len(r.left) > 0 {
		ps = append(ps, r.piece())
	}
	return ps
}

// only are the pieces of b, which have just these tags.
func only(b []byte, tags ...byte) []api.Piece {
	ps := pieces(b)
	need(len(ps) == len(tags) && begin(ps, tags...), api.ErrForm)
	return ps
}

// begin: are these the first pieces' tags?
func begin(ps []api.Piece, tags ...byte) bool {
	if len(ps) < len(tags) {
		return false
	}
	for i, tag := range tags {
		if ps[i].Tag != tag {
			return false
		}
	}
	return true
}

// keyForm is what stands within a certificate's key's form. Of the pieces ahead of it the tags alone count.
func keyForm(first []byte) []byte {
	ps := pieces(first)
	if begin(ps, tagVersion) {
		ps = ps[1:]
	}
	ahead := []byte{tagNumber, tagList, tagList, tagList, tagList}
	need(begin(ps, append(ahead, tagList)...), api.ErrForm)
	return ps[len(ahead)].Body
}

// keyWithin is the key of what stands within a key's form.
func keyWithin(form []byte) api.Key {
	ps := only(form, tagList, tagBits)
	kind, _ := Put(ps[0])
	need(bytes.Equal(kind, algorithm(keyObject)), api.ErrForm)
	bits := ps[1].Body
	need(len(bits) > 0 && bits[0] == 0, api.ErrForm)
	list := only(bits[1:], tagList)[0].Body
	numbers := only(list, tagNumber, tagNumber)
	n, e := numbers[0].Body, numbers[1].Body
	need(isNumber(n) && isNumber(e), api.ErrForm)
	k := api.Key{N: nat.Trim(n), E: nat.Trim(e)}
	need(rsa.Right(k), api.ErrArg)
	return k
}

// isNumber: are these the contents of a whole number that is right?
func isNumber(b []byte) bool {
	switch {
	case len(b) == 0 || b[0] >= firstBit:
		return false
	case b[0] == 0 && len(b) > 1:
		return b[1] >= firstBit
	}
	return true
}
