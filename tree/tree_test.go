package tree

import (
	"slices"
	"strings"
	"testing"

	"lanyard/api"
	"lanyard/xml"
)

// spaceOfXML is as layer 11's chapter has it.
const spaceOfXML = "http://www.w3.org/XML/1998/namespace"

// family has several children, attributes and elements of one name.
const family = "<a xmlns='u' xmlns:p='v' ID='1' x='2'><b ID='2' p:ID='1'>t<!--c-->u</b><p:b xmlns='w' ID='2'><c/></p:b><b/><?t d?><?t?><p:c p:x='3' x='4'/>end</a>"

// parsed is the tree of a text that is right.
func parsed(t testing.TB, s string) api.Doc {
	t.Helper()
	d, err := xml.Parse([]byte(s))
	if err != api.OK {
		t.Fatalf("Parse(%q): %d", s, err)
	}
	return d
}

// doc is a tree that is put together by hand.
func doc(nodes ...api.Node) api.Doc { return api.Doc{Nodes: nodes} }

// elem is an element without a space, attributes, declarations.
func elem(parent int, local string, kids ...int) api.Node {
	return api.Node{Kind: api.Elem, Parent: parent, Local: local, Kids: kids}
}

// leaf is a node of text or a comment.
func leaf(kind, parent int, value string) api.Node {
	return api.Node{Kind: kind, Parent: parent, Value: value}
}

// proc is an instruction.
func proc(parent int, target, value string) api.Node {
	return api.Node{Kind: api.Proc, Parent: parent, Local: target, Value: value}
}

// sameNodes: are these two trees one? A nil list is an empty one.
func sameNodes(a, b []api.Node) bool {
	return slices.EqualFunc(a, b, func(x, y api.Node) bool {
		return x.Kind == y.Kind && x.Parent == y.Parent && x.Prefix == y.Prefix && x.Local == y.Local && x.Space == y.Space && x.Value == y.Value &&
			slices.Equal(x.Kids, y.Kids) && slices.Equal(x.Attrs, y.Attrs) && slices.Equal(x.Decls, y.Decls)
	})
}

func TestRightTrees(t *testing.T) {
	for _, s := range []string{"<a/>", family, "<a>t<!--c--><?t?><b/></a>", strings.Repeat("<a>", 32) + strings.Repeat("</a>", 32), "<a>" + strings.Repeat("<b/>", 4095) + "</a>"} {
		if !Right(parsed(t, s)) {
			t.Errorf("P12.1: the tree of %.60q isn't right", s)
		}
	}
	for what, d := range map[string]api.Doc{
		"one element":                        doc(elem(-1, "a")),
		"an element without a name":          doc(api.Node{Kind: api.Elem, Parent: -1}),
		"each kind":                          doc(elem(-1, "a", 1, 2, 3, 4), leaf(api.Chars, 0, "t"), leaf(api.Comment, 0, "c"), proc(0, "t", ""), elem(0, "b")),
		"nodes that don't stand as they are": doc(elem(-1, "a", 1, 2, 4), elem(0, "b", 3, 5), elem(0, "c"), elem(1, "d"), leaf(api.Chars, 0, "t"), elem(1, "e")),
		"lists that are empty":               doc(api.Node{Kind: api.Elem, Parent: -1, Kids: []int{1}}, api.Node{Kind: api.Comment, Kids: []int{}, Attrs: []api.Attr{}, Decls: []api.Decl{}}),
		// Names, spaces and texts count for nothing.
		"names and texts that are none": doc(api.Node{Kind: api.Elem, Parent: -1, Kids: []int{1, 2}, Prefix: "1:", Local: "<", Space: "\xFF", Value: "v", Attrs: []api.Attr{{Prefix: "p"}, {Prefix: "p"}}, Decls: []api.Decl{{}, {}, {Prefix: "xmlns"}}},
			api.Node{Kind: api.Chars, Prefix: "p", Local: "l", Space: "u"}, api.Node{Kind: api.Comment, Value: "--\x00"}),
	} {
		if !Right(d) {
			t.Errorf("P12.1: a tree with %s isn't right", what)
		}
	}
}

func TestKids(t *testing.T) {
	d := parsed(t, family)
	for _, x := range []struct {
		i            int
		space, local string
		want         []int
	}{
		{0, "u", "b", []int{1, 7}}, {0, "u", "", []int{1, 7}}, {0, "v", "b", []int{5}}, {0, "v", "c", []int{10}}, {0, "v", "", []int{5, 10}},
		{0, "w", "", nil}, {0, "", "", nil}, {0, "", "b", nil}, {0, "u", "c", nil}, {0, "u", "B", nil}, {0, "U", "b", nil}, {0, "u", "bb", nil}, {0, "p", "b", nil}, {0, "u", "p:b", nil}, {0, "u", "a", nil}, {0, "u", "t", nil},
		{1, "u", "", nil}, {5, "w", "c", []int{6}}, {5, "w", "", []int{6}}, {5, "v", "c", nil}, {6, "w", "", nil}, {7, "u", "b", nil},
	} {
		if got := Kids(d, x.i, x.space, x.local); !slices.Equal(got, x.want) {
			t.Errorf("P12.1: Kids(%d, %q, %q): %v, not %v", x.i, x.space, x.local, got, x.want)
		}
	}
	// Children's children aren't an element's, nor is it its own; without a space there are elements, too.
	d = parsed(t, "<a><a><a/></a>t<b xmlns='u'/><a/></a>")
	for local, want := range map[string][]int{"a": {1, 5}, "": {1, 5}, "b": nil} {
		if got := Kids(d, 0, "", local); !slices.Equal(got, want) {
			t.Errorf("P12.1: Kids of %q: %v, not %v", local, got, want)
		}
	}
	// By hand: an element's own space counts, whatever is declared; an element without a local name.
	d = doc(api.Node{Kind: api.Elem, Parent: -1, Kids: []int{1, 2, 3}, Decls: []api.Decl{{URI: "v"}}}, api.Node{Kind: api.Elem, Space: "u", Local: "b"}, api.Node{Kind: api.Chars, Space: "u", Local: "b"}, api.Node{Kind: api.Elem, Space: "u"})
	for local, want := range map[string][]int{"": {1, 3}, "b": {1}} {
		if got := Kids(d, 0, "u", local); !slices.Equal(got, want) {
			t.Errorf("P12.1: Kids of %q: %v, not %v", local, got, want)
		}
	}
}

func TestOne(t *testing.T) {
	d := parsed(t, family)
	for _, x := range []struct {
		i            int
		space, local string
		want         int
		err          api.Errno
	}{
		{0, "v", "b", 5, api.OK}, {0, "v", "c", 10, api.OK}, {5, "w", "c", 6, api.OK}, {5, "w", "", 6, api.OK},
		{0, "u", "b", 0, api.ErrMany}, {0, "u", "", 0, api.ErrMany}, {0, "v", "", 0, api.ErrMany},
		{0, "u", "z", 0, api.ErrNone}, {0, "", "", 0, api.ErrNone}, {0, "w", "c", 0, api.ErrNone}, {1, "u", "", 0, api.ErrNone}, {6, "w", "c", 0, api.ErrNone},
	} {
		if got, err := One(d, x.i, x.space, x.local); got != x.want || err != x.err {
			t.Errorf("P12.1: One(%d, %q, %q): %d, %d, not %d, %d", x.i, x.space, x.local, got, err, x.want, x.err)
		}
	}
	d = parsed(t, "<a>"+strings.Repeat("<b/>", 4000)+"<c/></a>")
	if got, err := One(d, 0, "", "c"); got != 4001 || err != api.OK {
		t.Errorf("P12.1: One among many: %d, %d", got, err)
	}
	if got, err := One(d, 0, "", "b"); got != 0 || err != api.ErrMany {
		t.Errorf("P12.1: One of many: %d, %d", got, err)
	}
}

func checkAttr(t *testing.T, d api.Doc, i int, local, want string, has bool) {
	t.Helper()
	if got, found := Attr(d, i, local); got != want || found != has {
		t.Errorf("P12.1: Attr(%d, %q): %q, %v, not %q, %v", i, local, got, found, want, has)
	}
}

func TestAttr(t *testing.T) {
	d := parsed(t, family)
	checkAttr(t, d, 0, "ID", "1", true)
	checkAttr(t, d, 0, "x", "2", true)
	checkAttr(t, d, 1, "ID", "2", true)
	checkAttr(t, d, 10, "x", "4", true)
	for _, local := range []string{"", "id", "Id", "p:ID", "xmlns", "xmlns:p", "p", "X", "xx", "IDx"} {
		checkAttr(t, d, 0, local, "", false)
	}
	checkAttr(t, d, 7, "ID", "", false)
	checkAttr(t, parsed(t, "<a xmlns:p='v' p:x='1' xml:lang='2'/>"), 0, "x", "", false)
	checkAttr(t, parsed(t, "<a xmlns:p='v' p:x='1' xml:lang='2'/>"), 0, "lang", "", false)
	checkAttr(t, parsed(t, "<a xmlns:p='v' p:x='1' x='' p:y='2'/>"), 0, "x", "", true)
	// By hand: two of one name, one without a prefix that has a space, one without a name.
	d = doc(api.Node{Kind: api.Elem, Parent: -1, Attrs: []api.Attr{{Prefix: "p", Local: "x", Value: "0"}, {Local: "x", Space: "u", Value: "1"}, {Local: "x", Value: "2"}, {Value: "3"}}})
	checkAttr(t, d, 0, "x", "1", true)
	checkAttr(t, d, 0, "", "3", true)
}
