package tree

import (
	"math/rand"
	"slices"
	"strings"
	"testing"

	"lanyard/api"
)

// The calls once more, by the plain words of the chapter, each node looked at for each thing that is asked.

func plainRight(d api.Doc) bool {
	if len(d.Nodes) == 0 || d.Nodes[0].Kind != api.Elem || d.Nodes[0].Parent != -1 {
		return false
	}
	for i, n := range d.Nodes {
		var kids []int
		for j, m := range d.Nodes {
			if m.Parent == i {
				kids = append(kids, j)
			}
		}
		if !slices.Equal(kids, n.Kids) || !slices.Contains([]int{api.Elem, api.Chars, api.Comment, api.Proc}, n.Kind) {
			return false
		}
		if n.Kind != api.Elem && (len(n.Attrs) > 0 || len(n.Decls) > 0) {
			return false
		}
		if i > 0 && (n.Parent < 0 || n.Parent >= i || d.Nodes[n.Parent].Kind != api.Elem) {
			return false
		}
	}
	return true
}

// plain is a tree, and whether it is right.
type plain struct {
	api.Doc
	right bool
}

func (p plain) element(i int) bool {
	return p.right && i >= 0 && i < len(p.Nodes) && p.Nodes[i].Kind == api.Elem
}

func (p plain) kids(i int, space, local string) []int {
	var list []int
	for j, n := range p.Nodes {
		if p.element(i) && n.Kind == api.Elem && n.Parent == i && n.Space == space && (local == n.Local || local == "") {
			list = append(list, j)
		}
	}
	return list
}

func (p plain) attr(i int, local string) (string, bool) {
	value, found := "", false
	if p.element(i) {
		for _, a := range slices.Backward(p.Nodes[i].Attrs) {
			if a.Local == local && a.Prefix == "" {
				value, found = a.Value, true
			}
		}
	}
	return value, found
}

func (p plain) text(i int) (string, api.Errno) {
	if !p.element(i) {
		return "", api.ErrArg
	}
	s := ""
	for _, n := range p.Nodes {
		if n.Parent == i && n.Kind == api.Elem {
			return "", api.ErrForm
		}
		if n.Parent == i && n.Kind == api.Chars {
			s += n.Value
		}
	}
	return s, api.OK
}

func (p plain) find(id string) (int, api.Errno) {
	if !p.right {
		return 0, api.ErrArg
	}
	at, count := 0, 0
	for i := range p.Nodes {
		if value, found := p.attr(i, "ID"); found && value == id && id != "" {
			at, count = i, count+1
		}
	}
	switch {
	case count == 0:
		return 0, api.ErrNone
	case count > 1:
		return 0, api.ErrMany
	}
	return at, api.OK
}

func (p plain) inside(i, top int) bool {
	if !p.element(top) || i < 0 || i >= len(p.Nodes) {
		return false
	}
	return i == top || p.inside(p.Nodes[i].Parent, top)
}

func (p plain) scope(i int, prefix string) (string, bool) {
	if !p.element(i) {
		return "", false
	}
	for _, decl := range p.Nodes[i].Decls {
		if decl.Prefix == prefix {
			return decl.URI, true
		}
	}
	if i > 0 {
		return p.scope(p.Nodes[i].Parent, prefix)
	}
	if prefix == "xml" {
		return spaceOfXML, true
	}
	return "", false
}

var (
	attrSigns = strings.NewReplacer("&", "&amp;", "<", "&lt;", `"`, "&quot;", "\t", "&#x9;", "\n", "&#xA;", "\r", "&#xD;")
	textSigns = strings.NewReplacer("&", "&amp;", "<", "&lt;", ">", "&gt;", "\r", "&#xD;")
)

func (p plain) write(i int) string {
	n := p.Nodes[i]
	named := func(prefix, local string) string { return strings.TrimPrefix(prefix+":", ":") + local }
	switch n.Kind {
	case api.Chars:
		return textSigns.Replace(n.Value)
	case api.Comment:
		return "<!--" + n.Value + "-->"
	case api.Proc:
		return "<?" + n.Local + map[bool]string{true: " "}[n.Value != ""] + n.Value + "?>"
	}
	s := "<" + named(n.Prefix, n.Local)
	for _, decl := range n.Decls {
		s += " xmlns" + strings.TrimSuffix(":"+decl.Prefix, ":") + `="` + attrSigns.Replace(decl.URI) + `"`
	}
	for _, a := range n.Attrs {
		s += " " + named(a.Prefix, a.Local) + `="` + attrSigns.Replace(a.Value) + `"`
	}
	s += ">"
	for _, kid := range n.Kids {
		s += p.write(kid)
	}
	return s + "</" + named(n.Prefix, n.Local) + ">"
}

var (
	someSpaces   = []string{"", "u", "v", "u:p"}
	someLocals   = []string{"", "a", "b", "x", "ID"}
	somePrefixes = []string{"", "p", "q", "xml", "xmlns"}
)

// checkCalls looks that each call answers as the plain words say, of each number, and of some that are none.
func checkCalls(t *testing.T, d api.Doc) {
	t.Helper()
	p := plain{d, plainRight(d)}
	checkWhole(t, p)
	for i := -2; i <= len(d.Nodes)+1; i++ {
		checkNumber(t, p, i)
	}
}

func checkWhole(t *testing.T, p plain) {
	t.Helper()
	if Right(p.Doc) != p.right {
		t.Fatalf("P12.1: Right is %v: %+v", !p.right, p.Nodes)
	}
	for _, id := range []string{"", "1", "2", "3"} {
		wantAt, wantErr := p.find(id)
		if at, err := Find(p.Doc, id); at != wantAt || err != wantErr {
			t.Fatalf("P12.2: Find(%q): %d, %d, not %d, %d: %+v", id, at, err, wantAt, wantErr, p.Nodes)
		}
	}
	want, wantErr := "", api.ErrArg
	if p.right {
		want, wantErr = p.write(0), api.OK
	}
	if s, err := Write(p.Doc); s != want || err != wantErr {
		t.Fatalf("P12.4: Write: %q, %d, not %q, %d: %+v", s, err, want, wantErr, p.Nodes)
	}
}

func checkNumber(t *testing.T, p plain, i int) {
	t.Helper()
	for _, space := range someSpaces {
		for _, local := range someLocals {
			checkKids(t, p, i, space, local)
		}
	}
	for _, local := range someLocals {
		want, has := p.attr(i, local)
		if got, found := Attr(p.Doc, i, local); got != want || found != has {
			t.Fatalf("P12.1: Attr(%d, %q): %q, %v, not %q, %v: %+v", i, local, got, found, want, has, p.Nodes)
		}
	}
	want, wantErr := p.text(i)
	if got, err := Text(p.Doc, i); got != want || err != wantErr {
		t.Fatalf("P12.2: Text(%d): %q, %d, not %q, %d: %+v", i, got, err, want, wantErr, p.Nodes)
	}
	for top := -2; top <= len(p.Nodes)+1; top++ {
		if want := p.inside(i, top); Inside(p.Doc, i, top) != want {
			t.Fatalf("P12.3: Inside(%d, %d): %v: %+v", i, top, !want, p.Nodes)
		}
	}
	for _, prefix := range somePrefixes {
		want, has := p.scope(i, prefix)
		if got, found := Scope(p.Doc, i, prefix); got != want || found != has {
			t.Fatalf("P12.3: Scope(%d, %q): %q, %v, not %q, %v: %+v", i, prefix, got, found, want, has, p.Nodes)
		}
	}
}

func checkKids(t *testing.T, p plain, i int, space, local string) {
	t.Helper()
	want := p.kids(i, space, local)
	if got := Kids(p.Doc, i, space, local); !slices.Equal(got, want) {
		t.Fatalf("P12.1: Kids(%d, %q, %q): %v, not %v: %+v", i, space, local, got, want, p.Nodes)
	}
	wantOne, wantErr := 0, api.OK
	switch {
	case !p.element(i):
		wantErr = api.ErrArg
	case len(want) == 0:
		wantErr = api.ErrNone
	case len(want) > 1:
		wantErr = api.ErrMany
	default:
		wantOne = want[0]
	}
	if one, err := One(p.Doc, i, space, local); one != wantOne || err != wantErr {
		t.Fatalf("P12.1: One(%d, %q, %q): %d, %d, not %d, %d: %+v", i, space, local, one, err, wantOne, wantErr, p.Nodes)
	}
}

// hand puts trees together.
type hand struct{ *rand.Rand }

func (h hand) one(of ...string) string { return of[h.Intn(len(of))] }

func (h hand) value() string {
	return h.one("", "1", "2", "3", "&", "<\">", "\t\n\r", "\xFF")
}

// tree is a right one of at most so many nodes, its nodes in any order that is right.
func (h hand) tree(most int) api.Doc {
	var nodes []api.Node
	for i := range 1 + h.Intn(most) {
		n := api.Node{Kind: 1 + h.Intn(4), Parent: -1, Prefix: h.one(somePrefixes...), Local: h.one(someLocals...), Space: h.one(someSpaces...), Value: h.value()}
		if i == 0 || h.Intn(2) == 0 {
			n.Kind = api.Elem
		}
		if i > 0 {
			for n.Parent < 0 || nodes[n.Parent].Kind != api.Elem {
				n.Parent = h.Intn(i)
			}
			nodes[n.Parent].Kids = append(nodes[n.Parent].Kids, i)
		}
		if n.Kind == api.Elem {
			n.Attrs, n.Decls = h.attrs(), h.decls()
		}
		nodes = append(nodes, n)
	}
	return api.Doc{Nodes: nodes}
}

func (h hand) attrs() []api.Attr {
	var list []api.Attr
	for range h.Intn(4) {
		list = append(list, api.Attr{Prefix: h.one("", "", "p"), Local: h.one("ID", "ID", "a", "x"), Space: h.one(someSpaces...), Value: h.value()})
	}
	return list
}

func (h hand) decls() []api.Decl {
	var list []api.Decl
	for range h.Intn(3) {
		list = append(list, api.Decl{Prefix: h.one(somePrefixes...), URI: h.value()})
	}
	return list
}

// number is one of a tree of so many nodes, or nearly.
func (h hand) number(size int) int { return h.Intn(size+4) - 2 }

// turn changes one thing of a tree, which may be wrong behind it.
func (h hand) turn(d api.Doc) {
	n := &d.Nodes[h.Intn(len(d.Nodes))]
	switch h.Intn(9) {
	case 0:
		n.Parent = h.number(len(d.Nodes))
	case 1:
		n.Kind = h.number(4)
	case 2:
		n.Kids = append(n.Kids, h.number(len(d.Nodes)))
	case 3:
		n.Kids = append([]int{h.number(len(d.Nodes))}, n.Kids...)
	case 4:
		if len(n.Kids) > 0 {
			n.Kids[h.Intn(len(n.Kids))] = h.number(len(d.Nodes))
		}
	case 5:
		if len(n.Kids) > 0 {
			at := h.Intn(len(n.Kids))
			n.Kids = slices.Delete(n.Kids, at, at+1)
		}
	case 6:
		slices.Reverse(n.Kids)
	case 7:
		n.Attrs = append(n.Attrs, api.Attr{})
	default:
		n.Decls = append(n.Decls, api.Decl{})
	}
}

func TestTreesByHand(t *testing.T) {
	h := hand{rand.New(rand.NewSource(121))}
	for range 5000 {
		d := h.tree(10)
		if !plainRight(d) {
			t.Fatalf("the tree isn't right: %+v", d.Nodes)
		}
		checkCalls(t, d)
	}
}

func TestTurnedTrees(t *testing.T) {
	h := hand{rand.New(rand.NewSource(122))}
	wrong := 0
	for range 40000 {
		d := h.tree(7)
		for range 1 + h.Intn(3) {
			h.turn(d)
		}
		if !plainRight(d) {
			wrong++
		}
		checkCalls(t, d)
	}
	if wrong < 10000 || wrong > 39000 {
		t.Errorf("%d of 40000 trees are wrong", wrong)
	}
}

// Three nodes, of each kind, each Parent and each few Kids that might be: Right tells as the plain words do.
func TestAllSmallTrees(t *testing.T) {
	var lists [][]int
	for a := -1; a <= 3; a++ {
		for b := -1; b <= 3; b++ {
			lists = append(lists, []int{a, b})
		}
		lists = append(lists, []int{a})
	}
	lists = append(lists, nil, []int{1, 2, 2}, []int{1, 1, 2}, []int{0, 1, 2}, []int{1, 2, 3})
	few := [][]int{nil, {0}, {1}, {2}, {2, 2}, {3}}
	right := 0
	for _, kids0 := range lists {
		for at := range 2 * 4 * 2 * 5 * 5 * 5 {
			kind0, at := 1+at%2, at/2
			parent0, at := at%4-2, at/4
			kind1, at := 1+at%2, at/2
			parent1, at := at%5-2, at/5
			kind2, at := at%5, at/5
			parent2 := at - 1
			for _, kids1 := range few {
				for _, kids2 := range few {
					d := doc(api.Node{Kind: kind0, Parent: parent0, Kids: kids0}, api.Node{Kind: kind1, Parent: parent1, Kids: kids1}, api.Node{Kind: kind2, Parent: parent2, Kids: kids2})
					want := plainRight(d)
					if Right(d) != want {
						t.Fatalf("P12.1: Right is %v: %+v", !want, d.Nodes)
					}
					if want {
						right++
					}
				}
			}
		}
	}
	// Both children of the first node, of 2 and 4 kinds; or one within the other.
	if right != 2*4+4 {
		t.Errorf("P12.1: %d small trees are right", right)
	}
}
