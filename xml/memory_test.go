package xml

import (
	"bytes"
	"math/rand"
	"slices"
	"strings"
	"testing"

	"lanyard/api"
)

const rich = "<?xml version='1.0'?>\r\n<p:a xmlns:p='u' xmlns='v' x='1&amp;2' p:y='3'>t&lt;<b z='4' w='5'><!--c--><c xmlns:q='w' q:x='6'/></b><?t d?><d/>u<![CDATA[v]]></p:a><!--o-->"

// deepCopy is a tree that shares nothing with another one.
func deepCopy(nodes []api.Node) []api.Node {
	out := slices.Clone(nodes)
	for i := range out {
		n := &out[i]
		n.Kids, n.Attrs, n.Decls = slices.Clone(n.Kids), slices.Clone(n.Attrs), slices.Clone(n.Decls)
		n.Prefix, n.Local, n.Space, n.Value = strings.Clone(n.Prefix), strings.Clone(n.Local), strings.Clone(n.Space), strings.Clone(n.Value)
	}
	return out
}

func TestShape(t *testing.T) {
	m := maker{rand.New(rand.NewSource(5)), 2000}
	texts := []string{rich, "<a/>", nested(32, "t"), nested(1, strings.Repeat("<b/>t", 2000))}
	for range 3000 {
		texts = append(texts, m.document())
	}
	for _, s := range texts {
		d, err := Parse([]byte(s))
		if err != api.OK {
			continue
		}
		times := make([]int, len(d.Nodes))
		for i, n := range d.Nodes {
			for _, k := range n.Kids {
				if k <= i || k >= len(d.Nodes) || d.Nodes[k].Parent != i {
					t.Fatalf("P11.3: Parse(%q): node %d has the child %d: %+v", s, i, k, d.Nodes)
				}
				times[k]++
			}
			if !slices.IsSorted(n.Kids) || n.Kind != api.Elem && len(n.Kids)+len(n.Attrs)+len(n.Decls) > 0 {
				t.Fatalf("P11.3: Parse(%q): node %d: %+v", s, i, n)
			}
			if i == 0 && (n.Kind != api.Elem || n.Parent != -1) || i > 0 && (n.Parent < 0 || n.Parent >= i) {
				t.Fatalf("P11.3: Parse(%q): node %d's parent is %d", s, i, n.Parent)
			}
		}
		for i, n := range times {
			if i == 0 && n != 0 || i > 0 && n != 1 {
				t.Fatalf("P11.3: Parse(%q): node %d is %d times a child", s, i, n)
			}
		}
	}
}

func TestNothingIsKept(t *testing.T) {
	for _, s := range []string{rich, "<a>" + strings.Repeat("t", 1000) + "</a>", "<a x='v'><!--c--></a>"} {
		room := bytes.Repeat([]byte("<b/>"), len(s)+100)
		copy(room, s)
		b := room[:len(s)]
		before := bytes.Clone(room)
		d, err := Parse(b)
		if err != api.OK || !bytes.Equal(room, before) {
			t.Errorf("P11.3: Parse has changed its argument, or answered %d", err)
		}
		want := deepCopy(d.Nodes)
		for i := range room {
			room[i] ^= 0xFF
		}
		if !sameNodes(d.Nodes, want) {
			t.Error("P11.3: an answer has memory that was handed in")
		}
		copy(room, before)
		again, _ := Parse(b)
		for i := range d.Nodes {
			d.Nodes[i] = api.Node{}
		}
		if !sameNodes(again.Nodes, want) {
			t.Error("P11.3: what was read changes what is read behind it")
		}
	}
	// Beside faults nothing is kept either.
	Parse([]byte("<a xmlns:p='u'><p:b x='"))
	checkFault(t, "P11.3", "<p:b/>", api.ErrSpace)
	checkOK(t, "P11.3", "<a/>")
}

func TestNoTwoListsShare(t *testing.T) {
	d, err := Parse([]byte(rich))
	if err != api.OK {
		t.Fatalf("P11.3: %d", err)
	}
	want := deepCopy(d.Nodes)
	for i := range want {
		// Each list by turns is filled, its spare room included: the others stay.
		n := d.Nodes[i]
		for _, fill := range []func(){
			func() {
				all := n.Kids[:cap(n.Kids)]
				for j := range all {
					all[j] = 99
				}
				want[i].Kids = slices.Clone(all[:len(n.Kids)])
			},
			func() {
				all := n.Attrs[:cap(n.Attrs)]
				for j := range all {
					all[j] = api.Attr{Local: "turned"}
				}
				want[i].Attrs = slices.Clone(all[:len(n.Attrs)])
			},
			func() {
				all := n.Decls[:cap(n.Decls)]
				for j := range all {
					all[j] = api.Decl{URI: "turned"}
				}
				want[i].Decls = slices.Clone(all[:len(n.Decls)])
			},
		} {
			fill()
			if !sameNodes(d.Nodes, want) {
				t.Fatalf("P11.3: a list of node %d shares memory with another one", i)
			}
		}
	}
}
