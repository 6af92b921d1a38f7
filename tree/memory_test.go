package tree

import (
	"slices"
	"strings"
	"testing"
	"unsafe"

	"lanyard/api"
)

// deepCopy is a tree that shares nothing with another one; of its lists it has the spare room, too.
func deepCopy(d api.Doc) api.Doc {
	out := slices.Clone(d.Nodes[:cap(d.Nodes)])
	for i := range out {
		n := &out[i]
		n.Kids, n.Attrs, n.Decls = slices.Clone(n.Kids[:cap(n.Kids)]), slices.Clone(n.Attrs[:cap(n.Attrs)]), slices.Clone(n.Decls[:cap(n.Decls)])
	}
	return api.Doc{Nodes: out}
}

// roomy is a tree whose lists have spare room, with things in it.
func roomy() api.Doc {
	d := right()
	d.Nodes = append(d.Nodes, elem(77, "spare", 78))[:len(d.Nodes)]
	for i := range d.Nodes {
		n := &d.Nodes[i]
		n.Kids = append(n.Kids, 70, 71, 72)[:len(n.Kids)]
		n.Attrs = append(n.Attrs, api.Attr{Local: "spare"})[:len(n.Attrs)]
		n.Decls = append(n.Decls, api.Decl{Prefix: "spare"})[:len(n.Decls)]
	}
	return d
}

// callAll makes each call, and is what they answer.
func callAll(d api.Doc) []any {
	var all []any
	add := func(results ...any) { all = append(all, results...) }
	add(Right(d))
	for i := range d.Nodes {
		for _, k := range Kids(d, i, "", "") {
			add(k)
		}
		one, e1 := One(d, i, "", "b")
		attr, f1 := Attr(d, i, "ID")
		text, e2 := Text(d, i)
		scope, f2 := Scope(d, i, "p")
		add(one, e1, attr, f1, text, e2, scope, f2, Inside(d, i, 1))
	}
	found, e3 := Find(d, "1")
	s, e4 := Write(d)
	add(found, e3, s, e4)
	return all
}

func TestNothingIsChanged(t *testing.T) {
	d := roomy()
	before := deepCopy(d)
	first := callAll(d)
	if !sameNodes(deepCopy(d).Nodes, before.Nodes) {
		t.Error("P12.4: a call has changed what was handed in")
	}
	if second := callAll(d); !slices.Equal(first, second) {
		t.Errorf("P12.4: calls answer otherwise the second time: %v, %v", first, second)
	}
}

func TestNothingIsKept(t *testing.T) {
	d := roomy()
	kids, text := Kids(d, 0, "", ""), ""
	text, _ = Write(d)
	clear(d.Nodes[0].Kids[:cap(d.Nodes[0].Kids)])
	clear(d.Nodes)
	if !slices.Equal(kids, []int{1, 4}) || !strings.HasPrefix(text, "<a xmlns:p=\"u\" ID=\"1\"><b>t<!--c--></b><d><?t v?></d>u</a>") {
		t.Errorf("P12.4: answers have what was handed in: %v, %q", kids, text)
	}
	if _, err := Write(d); err != api.ErrArg {
		t.Error("P12.4: a tree is kept")
	}
	// Two answers share nothing, nor does one with the tree.
	d = roomy()
	one, two := Kids(d, 0, "", ""), Kids(d, 0, "", "")
	for i := range one[:cap(one)] {
		one[:cap(one)][i] = 99
	}
	if !slices.Equal(two, []int{1, 4}) || !slices.Equal(Kids(d, 0, "", ""), []int{1, 4}) || !slices.Equal(d.Nodes[0].Kids, []int{1, 4, 6}) {
		t.Error("P12.4: lists that were answered share memory")
	}
	// Where each child fits, its parent's own list is not handed out.
	d = doc(elem(-1, "a", 1, 2), elem(0, "b"), elem(0, "b"))
	Kids(d, 0, "", "b")[0] = 99
	if !Right(d) {
		t.Error("P12.4: Kids hands out the tree's own list")
	}
}

// shares tells whether a text lies within another one's memory.
func shares(part, whole string) bool {
	p, w := uintptr(unsafe.Pointer(unsafe.StringData(part))), uintptr(unsafe.Pointer(unsafe.StringData(whole)))
	return len(part) > 0 && p >= w && p < w+uintptr(len(whole))
}

func TestTextsAreNewMemory(t *testing.T) {
	value, uri, content := strings.Repeat("v", 50), strings.Repeat("u", 50), strings.Repeat("t", 50)
	d := doc(api.Node{Kind: api.Elem, Parent: -1, Kids: []int{1}, Attrs: []api.Attr{{Local: "x", Value: value}}, Decls: []api.Decl{{Prefix: "p", URI: uri}}}, leaf(api.Chars, 0, content))
	attr, _ := Attr(d, 0, "x")
	scope, _ := Scope(d, 0, "p")
	text, _ := Text(d, 0)
	if attr != value || scope != uri || text != content {
		t.Errorf("P12.4: %q, %q, %q", attr, scope, text)
	}
	if shares(attr, value) || shares(scope, uri) || shares(text, content) {
		t.Error("P12.4: an answer shares memory with what was handed in")
	}
}
