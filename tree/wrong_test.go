package tree

import (
	"math"
	"slices"
	"strconv"
	"testing"

	"lanyard/api"
)

// right is a tree of all kinds of nodes.
func right() api.Doc {
	d := doc(elem(-1, "a", 1, 4, 6), elem(0, "b", 2, 3), leaf(api.Chars, 1, "t"), leaf(api.Comment, 1, "c"), elem(0, "d", 5), proc(4, "t", "v"), leaf(api.Chars, 0, "u"))
	d.Nodes[0].Attrs = []api.Attr{{Local: "ID", Value: "1"}}
	d.Nodes[0].Decls = []api.Decl{{Prefix: "p", URI: "u"}}
	return d
}

// turned is that tree with something changed.
func turned(change func(n []api.Node)) api.Doc {
	d := right()
	change(d.Nodes)
	return d
}

// wrongTrees are such as aren't right, by what is wrong with them.
func wrongTrees() map[string]api.Doc {
	all := map[string]api.Doc{
		"no nodes":                              {},
		"no nodes, but a list":                  {Nodes: []api.Node{}},
		"a node 0 with the Parent 0":            turned(func(n []api.Node) { n[0].Parent = 0 }),
		"a node 0 with the Parent -2":           turned(func(n []api.Node) { n[0].Parent = -2 }),
		"a node 0 with the Parent 1":            turned(func(n []api.Node) { n[0].Parent = 1 }),
		"a node 0 alone, with the Parent 0":     doc(elem(0, "a")),
		"a node 0 alone that is its own child":  doc(elem(0, "a", 0)),
		"a node 0 alone that lists itself":      doc(elem(-1, "a", 0)),
		"a second outermost element":            doc(elem(-1, "a"), elem(-1, "b")),
		"a second outermost element, listed":    doc(elem(-1, "a", 1), elem(-1, "b")),
		"elements around one another":           doc(elem(1, "a", 1), elem(0, "b", 0)),
		"two nodes within one another":          doc(elem(-1, "a"), elem(2, "b", 2), elem(1, "c", 1)),
		"a node within itself":                  doc(elem(-1, "a"), elem(1, "b", 1)),
		"a node within itself, listed above":    doc(elem(-1, "a", 1), elem(1, "b")),
		"a Parent behind its child":             doc(elem(-1, "a", 2), elem(2, "b"), elem(0, "c", 1)),
		"a Parent that is the node behind":      turned(func(n []api.Node) { n[3].Parent = 4 }),
		"a Parent beyond the last":              turned(func(n []api.Node) { n[3].Parent = 7 }),
		"a Parent far beyond the last":          turned(func(n []api.Node) { n[3].Parent = math.MaxInt }),
		"a Parent below 0":                      turned(func(n []api.Node) { n[3].Parent = -1 }),
		"a Parent far below 0":                  turned(func(n []api.Node) { n[3].Parent = math.MinInt }),
		"a Parent of another node":              turned(func(n []api.Node) { n[3].Parent = 0 }),
		"a Parent that is a text":               turned(func(n []api.Node) { n[3].Parent, n[1].Kids, n[2].Kids = 2, []int{2}, []int{3} }),
		"a Parent that is a comment":            turned(func(n []api.Node) { n[4].Parent, n[0].Kids, n[3].Kids = 3, []int{1, 6}, []int{4} }),
		"a Parent that is an instruction":       turned(func(n []api.Node) { n[6].Parent, n[0].Kids, n[5].Kids = 5, []int{1, 4}, []int{6} }),
		"no Kids":                               turned(func(n []api.Node) { n[0].Kids = nil }),
		"the first of the Kids missing":         turned(func(n []api.Node) { n[0].Kids = []int{4, 6} }),
		"one of the Kids missing":               turned(func(n []api.Node) { n[0].Kids = []int{1, 6} }),
		"the last of the Kids missing":          turned(func(n []api.Node) { n[0].Kids = []int{1, 4} }),
		"the only one of the Kids missing":      turned(func(n []api.Node) { n[4].Kids = nil }),
		"too many Kids":                         turned(func(n []api.Node) { n[0].Kids = []int{1, 2, 4, 6} }),
		"a node that is listed twice":           turned(func(n []api.Node) { n[0].Kids = []int{1, 4, 4, 6} }),
		"one listed twice, and one missing":     turned(func(n []api.Node) { n[0].Kids = []int{1, 4, 4} }),
		"Kids beyond the last":                  turned(func(n []api.Node) { n[0].Kids = []int{1, 4, 6, 7} }),
		"Kids far beyond the last":              turned(func(n []api.Node) { n[0].Kids = []int{1, 4, math.MaxInt} }),
		"Kids below 0":                          turned(func(n []api.Node) { n[0].Kids = []int{-1, 1, 4, 6} }),
		"Kids far below 0":                      turned(func(n []api.Node) { n[0].Kids = []int{math.MinInt, 4, 6} }),
		"the outermost element among Kids":      turned(func(n []api.Node) { n[1].Kids = []int{0, 2, 3} }),
		"Kids that don't rise":                  turned(func(n []api.Node) { n[0].Kids = []int{4, 1, 6} }),
		"Kids that fall":                        turned(func(n []api.Node) { n[1].Kids = []int{3, 2} }),
		"Kids of another node":                  turned(func(n []api.Node) { n[1].Kids, n[4].Kids = []int{2}, []int{3, 5} }),
		"Kids that were changed for each other": turned(func(n []api.Node) { n[1].Kids, n[4].Kids = []int{5}, []int{2, 3} }),
		"Kids at a text":                        turned(func(n []api.Node) { n[2].Kids = []int{3} }),
		"one of the Kids behind the last":       turned(func(n []api.Node) { n[6].Kids = []int{7} }),
	}
	for _, kind := range []int{0, 5, -1, math.MinInt, math.MaxInt, 257} {
		all["the Kind of node 0 "+strconv.Itoa(kind)] = turned(func(n []api.Node) { n[0].Kind = kind })
		all["the Kind of node 1 "+strconv.Itoa(kind)] = turned(func(n []api.Node) { n[1].Kind = kind })
		all["the Kind of node 6 "+strconv.Itoa(kind)] = turned(func(n []api.Node) { n[6].Kind = kind })
	}
	for name, kind := range map[string]int{"a text": api.Chars, "a comment": api.Comment, "an instruction": api.Proc} {
		all["a node 0 that is "+name] = turned(func(n []api.Node) { n[0].Kind, n[0].Attrs, n[0].Decls = kind, nil, nil })
		all["a node 0 alone that is "+name] = doc(leaf(kind, -1, "t"))
		all["a Parent in a small tree that is "+name] = doc(elem(-1, "a", 1), api.Node{Kind: kind, Kids: []int{2}}, elem(1, "b"))
		all["Attrs at "+name] = turned(func(n []api.Node) { n[6].Kind, n[6].Attrs = kind, []api.Attr{{}} })
		all["Decls at "+name] = turned(func(n []api.Node) { n[6].Kind, n[6].Decls = kind, []api.Decl{{}} })
	}
	return all
}

// checkNothing looks that each call of a number answers nothing.
func checkNothing(t *testing.T, what string, d api.Doc, i int) {
	t.Helper()
	for _, local := range []string{"", "a", "b", "ID"} {
		if got := Kids(d, i, "", local); len(got) != 0 {
			t.Errorf("P12.1: %s: Kids(%d): %v", what, i, got)
		}
		if got, err := One(d, i, "", local); got != 0 || err != api.ErrArg {
			t.Errorf("P12.1: %s: One(%d): %d, %d", what, i, got, err)
		}
		if got, found := Attr(d, i, local); got != "" || found {
			t.Errorf("P12.1: %s: Attr(%d): %q, %v", what, i, got, found)
		}
	}
	if got, err := Text(d, i); got != "" || err != api.ErrArg {
		t.Errorf("P12.2: %s: Text(%d): %q, %d", what, i, got, err)
	}
	for _, prefix := range []string{"", "p", "xml"} {
		if got, found := Scope(d, i, prefix); got != "" || found {
			t.Errorf("P12.3: %s: Scope(%d, %q): %q, %v", what, i, prefix, got, found)
		}
	}
	// Nothing is inside of what is no element.
	for _, inner := range []int{i, -1, 0, 1, 2, 6} {
		if Inside(d, inner, i) {
			t.Errorf("P12.3: %s: Inside(%d, %d)", what, inner, i)
		}
	}
}

var farNumbers = []int{math.MinInt, math.MinInt + 1, -1 << 32, -2, -1, 1 << 32, math.MaxInt - 1, math.MaxInt}

func TestWrongTrees(t *testing.T) {
	if !Right(right()) {
		t.Fatal("P12.1: the tree ahead of all changes isn't right")
	}
	checkCalls(t, right())
	for what, d := range wrongTrees() {
		if Right(d) {
			t.Errorf("P12.1: a tree with %s is right", what)
		}
		numbers := slices.Clone(farNumbers)
		for i := range 10 {
			numbers = append(numbers, i)
		}
		for _, i := range numbers {
			checkNothing(t, what, d, i)
		}
		// The empty id, too: what is asked of a tree counts only where it is right.
		for _, id := range []string{"", "1", "2"} {
			if got, err := Find(d, id); got != 0 || err != api.ErrArg {
				t.Errorf("P12.2: %s: Find(%q): %d, %d", what, id, got, err)
			}
		}
		if got, err := Write(d); got != "" || err != api.ErrArg {
			t.Errorf("P12.4: %s: Write: %q, %d", what, got, err)
		}
	}
}

func TestWrongNumbers(t *testing.T) {
	d := right()
	for _, i := range append(slices.Clone(farNumbers), 7, 8, 2, 3, 5, 6) {
		checkNothing(t, "no element's number", d, i)
	}
	for _, i := range append(slices.Clone(farNumbers), 7, 8) {
		for _, top := range []int{0, 1, 4, i} {
			if Inside(d, i, top) {
				t.Errorf("P12.3: Inside(%d, %d) of no node", i, top)
			}
		}
	}
	// Nodes that are no elements are inside of some all the same.
	for _, x := range [][2]int{{2, 1}, {3, 1}, {5, 4}, {6, 0}, {2, 0}} {
		if !Inside(d, x[0], x[1]) {
			t.Errorf("P12.3: Inside(%d, %d)", x[0], x[1])
		}
	}
}
