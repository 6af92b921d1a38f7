package der

import (
	"bytes"
	"math/big"
	"math/rand"
	"strings"

	"lanyard/api"
)

// wantTake is Take, written anew: a piece is looked for whose bytes are just those.
func wantTake(b []byte) (api.Piece, int, api.Errno) {
	if len(b) == 0 {
		return api.Piece{}, 0, api.ErrShort
	}
	if b[0]%32 == 31 {
		return api.Piece{}, 0, api.ErrForm
	}
	if len(b) == 1 {
		return api.Piece{}, 0, api.ErrShort
	}
	head, size := 2, int(b[1])
	if b[1] == 0x80 || b[1] > 0x83 {
		return api.Piece{}, 0, api.ErrForm
	}
	if b[1] > 0x80 {
		head += int(b[1]) - 0x80
		if len(b) < head {
			return api.Piece{}, 0, api.ErrShort
		}
		size = int(new(big.Int).SetBytes(b[2:head]).Int64())
		if least := []int{0x80, 0x100, 0x10000}[head-3]; size < least {
			return api.Piece{}, 0, api.ErrForm
		}
	}
	if size >= 1<<20 {
		return api.Piece{}, 0, api.ErrLong
	}
	if len(b) < head+size {
		return api.Piece{}, 0, api.ErrShort
	}
	return api.Piece{Tag: b[0], Body: b[head : head+size]}, head + size, api.OK
}

// wantSplit is Split, written anew.
func wantSplit(b []byte) ([]api.Piece, api.Errno) {
	var ps []api.Piece
	for len(b) > 0 {
		p, took, err := wantTake(b)
		if err != api.OK {
			return nil, err
		}
		ps, b = append(ps, p), b[took:]
	}
	return ps, api.OK
}

// tagsOf are pieces' tags, one behind the other.
func tagsOf(ps []api.Piece) string {
	var tags []byte
	for _, p := range ps {
		tags = append(tags, p.Tag)
	}
	return string(tags)
}

// wantOnly are the pieces of b, which have just these tags.
func wantOnly(b []byte, tags string) ([]api.Piece, api.Errno) {
	ps, err := wantSplit(b)
	if err == api.OK && tagsOf(ps) != tags {
		return nil, api.ErrForm
	}
	return ps, err
}

// wantWithin is the key of what stands within a key's form, written anew.
func wantWithin(form []byte) (api.Key, api.Errno) {
	ps, err := wantOnly(form, "\x30\x03")
	if err != api.OK {
		return api.Key{}, err
	}
	if string(ps[0].Body) != "\x06\x09\x2A\x86\x48\x86\xF7\x0D\x01\x01\x01\x05\x00" || !bytes.HasPrefix(ps[1].Body, []byte{0}) {
		return api.Key{}, api.ErrForm
	}
	ps, err = wantOnly(ps[1].Body[1:], "\x30")
	if err != api.OK {
		return api.Key{}, err
	}
	ps, err = wantOnly(ps[0].Body, "\x02\x02")
	if err != api.OK {
		return api.Key{}, err
	}
	if !wantNumber(ps[0].Body) || !wantNumber(ps[1].Body) {
		return api.Key{}, api.ErrForm
	}
	n, e := new(big.Int).SetBytes(ps[0].Body), new(big.Int).SetBytes(ps[1].Body)
	size := len(n.Bytes())
	if size < 62 || size > 512 || n.Bit(0) == 0 || e.Bit(0) == 0 || e.Cmp(big.NewInt(3)) < 0 || e.Cmp(n) >= 0 {
		return api.Key{}, api.ErrArg
	}
	return api.Key{N: n.Bytes(), E: e.Bytes()}, api.OK
}

// wantNumber: are these the bytes in which a number from 0 on is written?
func wantNumber(b []byte) bool {
	x := new(big.Int).SetBytes(b)
	return bytes.Equal(b, x.FillBytes(make([]byte, x.BitLen()/8+1)))
}

// wantInfo is ParseInfo, written anew.
func wantInfo(b []byte) (api.Key, api.Errno) {
	ps, err := wantOnly(b, "\x30")
	if err != api.OK {
		return api.Key{}, err
	}
	return wantWithin(ps[0].Body)
}

// wantFromCert is FromCert, written anew.
func wantFromCert(b []byte) (api.Key, api.Errno) {
	ps, err := wantOnly(b, "\x30")
	if err != api.OK {
		return api.Key{}, err
	}
	ps, err = wantOnly(ps[0].Body, "\x30\x30\x03")
	if err != api.OK {
		return api.Key{}, err
	}
	ps, err = wantSplit(ps[0].Body)
	if err != api.OK {
		return api.Key{}, err
	}
	for _, front := range []string{"\x02\x30\x30\x30\x30\x30", "\xA0\x02\x30\x30\x30\x30\x30"} {
		if strings.HasPrefix(tagsOf(ps), front) {
			return wantWithin(ps[len(front)-1].Body)
		}
	}
	return api.Key{}, api.ErrForm
}

// part is a piece whose contents are still apart: bytes, and pieces behind them, and bytes behind these.
type part struct {
	tag   byte
	head  []byte
	parts []part
	tail  []byte
}

// list is a part with others within.
func list(tag byte, parts ...part) part {
	return part{tag: tag, parts: parts}
}

// leaf is a part with plain contents.
func leaf(tag byte, contents string) part {
	return part{tag: tag, head: []byte(contents)}
}

// inside are a part's contents.
func (p part) inside() []byte {
	b := bytes.Clone(p.head)
	for _, q := range p.parts {
		b = append(b, q.bytes()...)
	}
	return append(b, p.tail...)
}

// bytes are a part's bytes, their lengths by the library's way of writing numbers.
func (p part) bytes() []byte {
	inside := p.inside()
	b := []byte{p.tag, byte(len(inside))}
	if len(inside) >= 128 {
		digits := big.NewInt(int64(len(inside))).Bytes()
		b = append([]byte{p.tag, 0x80 + byte(len(digits))}, digits...)
	}
	return append(b, inside...)
}

// infoOf is a key's form, with the contents of its two numbers as they are handed in.
func infoOf(n, e []byte) part {
	numbers := list(0x30, leaf(0x02, string(n)), leaf(0x02, string(e)))
	bits := list(0x03, numbers)
	bits.head = []byte{0}
	return list(0x30, list(0x30, leaf(0x06, "\x2A\x86\x48\x86\xF7\x0D\x01\x01\x01"), leaf(0x05, "")), bits)
}

// certOf is a certificate, with the contents of the key's numbers as they are handed in.
func certOf(n, e []byte, name string) part {
	signing := func() part {
		return list(0x30, leaf(0x06, "\x2A\x86\x48\x86\xF7\x0D\x01\x01\x0B"), leaf(0x05, ""))
	}
	holder := func() part {
		return list(0x30, list(0x31, list(0x30, leaf(0x06, "\x55\x04\x03"), leaf(0x0C, name))))
	}
	dates := list(0x30, leaf(0x17, "000101000000Z"), leaf(0x17, "491231235959Z"))
	first := list(0x30, list(0xA0, leaf(0x02, "\x02")), leaf(0x02, "\x01"), signing(), holder(), dates, holder(), infoOf(n, e))
	return list(0x30, first, signing(), leaf(0x03, "\x00"))
}

// all are a part and those within it, each at its place.
func (p *part) all() []*part {
	found := []*part{p}
	for i := range p.parts {
		found = append(found, p.parts[i].all()...)
	}
	return found
}

// turned is a part one of whose places is turned into something else.
func turned(r *rand.Rand, p part) part {
	places := p.all()
	q := places[r.Intn(len(places))]
	some := func(l []byte) []byte { return l[:r.Intn(len(l)+1)] }
	switch r.Intn(9) {
	case 0:
		q.tag = []byte{0x02, 0x03, 0x05, 0x06, 0x30, 0x31, 0xA0, 0xA3, 0x1F, 0xFF, 0x00}[r.Intn(11)]
	case 1:
		q.tail = []byte{0x30}
	case 2:
		q.tail = []byte{0x05, 0x00}
	case 3:
		q.tail = []byte{0x05, 0x81, 0x7F}
	case 4:
		q.tail = []byte{0x05, 0x83, 0x10, 0x00, 0x00}
	case 5:
		q.head = some(q.head)
	case 6:
		q.head = append([]byte{byte(r.Intn(3)) * 0x7F}, q.head...)
	case 7:
		q.parts = q.parts[:r.Intn(len(q.parts)+1)]
	case 8:
		if len(q.parts) > 0 {
			q.parts = q.parts[1:]
		}
	}
	return p
}
