package der

import (
	"bytes"
	"testing"

	"lanyard/api"
)

// roomy is b with spare room that holds something.
func roomy(b []byte) []byte {
	whole := bytes.Repeat([]byte{0xAA}, len(b)+700)
	copy(whole, b)
	return whole[:len(b)]
}

// spoil turns every byte of lists, their spare room included.
func spoil(lists ...[]byte) {
	for _, l := range lists {
		l = l[:cap(l)]
		for i := range l {
			l[i] ^= 0xFF
		}
	}
}

// checkKept looks that a list and its spare room are as they were.
func checkKept(t *testing.T, what string, got, before []byte) {
	t.Helper()
	if !bytes.Equal(got[:cap(got)], before) {
		t.Errorf("P8.4: %s changed what was handed in", what)
	}
}

// whole is a copy of a list with its spare room.
func whole(b []byte) []byte {
	return bytes.Clone(b[:cap(b)])
}

func TestReadingKeepsNothing(t *testing.T) {
	k := example(t)
	cert, _ := Cert(k, "idp")
	form, _ := Info(k)
	for _, c := range []struct {
		what string
		b    []byte
		call func(b []byte) [][]byte
	}{
		{"Take", form, func(b []byte) [][]byte { p, _, _ := Take(b); return [][]byte{p.Body} }},
		{"Split", append(bytes.Clone(form), cert...), func(b []byte) [][]byte {
			ps, _ := Split(b)
			return [][]byte{ps[0].Body, ps[1].Body}
		}},
		{"ParseInfo", form, func(b []byte) [][]byte { k, _ := ParseInfo(b); return [][]byte{k.N, k.E} }},
		{"FromCert", cert, func(b []byte) [][]byte { k, _ := FromCert(b); return [][]byte{k.N, k.E} }},
	} {
		b := roomy(c.b)
		before := whole(b)
		got := c.call(b)
		checkKept(t, c.what, b, before)
		var wanted [][]byte
		for _, l := range got {
			wanted = append(wanted, bytes.Clone(l))
		}
		spoil(b)
		for i := range got {
			if !bytes.Equal(got[i], wanted[i]) {
				t.Errorf("P8.4: %s answers memory that was handed in", c.what)
			}
		}
		spoil(b)
		spoil(got[0])
		for i := 1; i < len(got); i++ {
			if !bytes.Equal(got[i], wanted[i]) {
				t.Errorf("P8.4: two lists of an answer of %s share memory", c.what)
			}
		}
		spoil(got[1:]...)
		checkKept(t, "changing an answer of "+c.what, b, before)
		for i, l := range c.call(b) {
			if !bytes.Equal(l, wanted[i]) {
				t.Errorf("P8.4: changing an answer of %s changed a later one", c.what)
			}
		}
	}
}

// Pieces of an answer that are appended to don't grow into one another.
func TestPiecesApart(t *testing.T) {
	ps, _ := Split([]byte("\x02\x01a\x05\x00\x02\x02bc\x05\x00"))
	for i := range ps {
		ps[i].Body = append(ps[i].Body, '!', '!', '!')
	}
	want := []api.Piece{piece(2, "a!!!"), piece(5, "!!!"), piece(2, "bc!!!"), piece(5, "!!!")}
	if !samePieces(ps, want) {
		t.Errorf("P8.4: pieces share memory: %q", ps)
	}
}

func TestPutKeepsNothing(t *testing.T) {
	body := roomy([]byte("abc"))
	room := []api.Piece{{Tag: 4, Body: body}, {Tag: 5}, {Tag: 6, Body: []byte("spare")}}
	ps := room[:2]
	before := whole(body)
	b, _ := Put(ps...)
	checkKept(t, "Put", body, before)
	if !samePieces(room, []api.Piece{piece(4, "abc"), {Tag: 5}, piece(6, "spare")}) {
		t.Errorf("P8.4: Put changed pieces that were handed in: %x", room)
	}
	spoil(body)
	if string(b) != "\x04\x03abc\x05\x00" {
		t.Errorf("P8.4: Put answers memory that was handed in: %x", b)
	}
	spoil(body)
	spoil(b)
	checkKept(t, "changing an answer of Put", body, before)
	if again, _ := Put(ps...); string(again) != "\x04\x03abc\x05\x00" {
		t.Errorf("P8.4: changing an answer of Put changed a later one: %x", again)
	}
}

func TestWritingKeepsNothing(t *testing.T) {
	k := example(t)
	for what, call := range map[string]func(api.Key) []byte{
		"Info": func(k api.Key) []byte { b, _ := Info(k); return b },
		"Cert": func(k api.Key) []byte { b, _ := Cert(k, "idp"); return b },
	} {
		one := api.Key{N: roomy(k.N), E: roomy(k.E), D: roomy(k.D)}
		before := [][]byte{whole(one.N), whole(one.E), whole(one.D)}
		b := call(one)
		want := bytes.Clone(b)
		for i, l := range [][]byte{one.N, one.E, one.D} {
			checkKept(t, what, l, before[i])
		}
		spoil(one.N, one.E, one.D)
		if !bytes.Equal(b, want) {
			t.Errorf("P8.4: %s answers memory that was handed in", what)
		}
		spoil(b)
		spoil(one.N, one.E, one.D)
		for i, l := range [][]byte{one.N, one.E, one.D} {
			checkKept(t, "changing an answer of "+what, l, before[i])
		}
		if !bytes.Equal(call(one), want) {
			t.Errorf("P8.4: changing an answer of %s changed a later one", what)
		}
	}
}
