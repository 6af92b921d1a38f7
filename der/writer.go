package der

import (
	"slices"

	"lanyard/api"
	"lanyard/nat"
)

// appendLength puts a length behind b. It is below tooLong.
func appendLength(b []byte, length int) []byte {
	if length < shortEnd {
		return append(b, byte(length))
	}
	digits := nat.Trim([]byte{byte(length >> 16), byte(length >> 8), byte(length)})
	b = append(b, byte(longBase+len(digits)))
	return append(b, digits...)
}

// put are the bytes of a piece of the forms, whose contents are never too long.
func put(tag byte, parts ...[]byte) []byte {
	b, _ := Put(api.Piece{Tag: tag, Body: slices.Concat(parts...)})
	return b
}

// number is a whole number that is right: a nought ahead of it keeps its first bit from saying that it is below 0. It isn't 0.
func number(a []byte) []byte {
	a = nat.Trim(a)
	if a[0] >= firstBit {
		a = append([]byte{0}, a...)
	}
	return put(tagNumber, a)
}

// algorithm names what something is made by.
func algorithm(object string) []byte {
	return put(tagList, put(tagObject, []byte(object)), put(tagNull))
}

// holder names somebody.
func holder(name string) []byte {
	part := put(tagList, put(tagObject, []byte(nameObject)), put(tagText, []byte(name)))
	return put(tagList, put(tagSet, part))
}

// info is the form of a key that is right.
func info(k api.Key) []byte {
	numbers := put(tagList, number(k.N), number(k.E))
	return put(tagList, algorithm(keyObject), put(tagBits, []byte{0}, numbers))
}
