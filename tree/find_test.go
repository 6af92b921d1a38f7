package tree

import (
	"strings"
	"testing"

	"lanyard/api"
)

func checkContent(t *testing.T, d api.Doc, i int, want string, wantErr api.Errno) {
	t.Helper()
	if got, err := Text(d, i); got != want || err != wantErr {
		t.Errorf("P12.2: Text(%d): %q, %d, not %q, %d", i, got, err, want, wantErr)
	}
}

func TestText(t *testing.T) {
	for s, want := range map[string]string{
		"<a/>": "", "<a></a>": "", "<a>t</a>": "t", "<a> t\n</a>": " t\n", "<a><!--c--></a>": "", "<a><?t d?></a>": "",
		"<a>t<!--c-->u<?t d?>v</a>": "tuv", "<a><!--c-->t</a>": "t", "<a>&lt;b/><![CDATA[<c/>]]>&#13;</a>": "<b/><c/>\r",
	} {
		checkContent(t, parsed(t, s), 0, want, api.OK)
	}
	for _, s := range []string{"<a><b/></a>", "<a>t<b/></a>", "<a><b/>t</a>", "<a>t<!--c-->u<b>v</b>w</a>", "<a xmlns='u'><p:b xmlns:p='v'/></a>"} {
		checkContent(t, parsed(t, s), 0, "", api.ErrForm)
	}
	d := parsed(t, family)
	checkContent(t, d, 0, "", api.ErrForm)
	checkContent(t, d, 1, "tu", api.OK)
	checkContent(t, d, 5, "", api.ErrForm)
	checkContent(t, d, 6, "", api.OK)
	checkContent(t, d, 10, "", api.OK)
	// By hand: texts next to each other, an empty one; an element's own Value and an instruction's count for nothing.
	d = doc(elem(-1, "a", 1, 2, 3, 4, 5), leaf(api.Chars, 0, "t"), leaf(api.Chars, 0, ""), leaf(api.Chars, 0, "\xFFu"), proc(0, "v", "w"), leaf(api.Comment, 0, "x"))
	d.Nodes[0].Value = "y"
	checkContent(t, d, 0, "t\xFFu", api.OK)
	// The order is that of the children, whatever stands between them.
	d = doc(elem(-1, "a", 1), elem(0, "b", 2, 3, 4), leaf(api.Chars, 1, "1"), leaf(api.Chars, 1, "2"), leaf(api.Chars, 1, "3"))
	checkContent(t, d, 1, "123", api.OK)
}

func checkFind(t *testing.T, d api.Doc, id string, want int, wantErr api.Errno) {
	t.Helper()
	if got, err := Find(d, id); got != want || err != wantErr {
		t.Errorf("P12.2: Find(%q): %d, %d, not %d, %d", id, got, err, want, wantErr)
	}
}

func TestFind(t *testing.T) {
	d := parsed(t, family)
	checkFind(t, d, "1", 0, api.OK)
	checkFind(t, d, "2", 0, api.ErrMany)
	for _, id := range []string{"3", "4", "", "11", " 1", "1 ", "ID", "u"} {
		checkFind(t, d, id, 0, api.ErrNone)
	}
	d = parsed(t, "<a><b><c ID='x'/></b><d id='y' Id='y'/><e xmlns:p='u' p:ID='z' xml:id='z'/><f ID=''/><g ID='&#x9;w'/>t<!--ID='v'--></a>")
	checkFind(t, d, "x", 2, api.OK)
	checkFind(t, d, "\tw", 6, api.OK)
	for _, id := range []string{"y", "z", "", "v", "w", "X"} {
		checkFind(t, d, id, 0, api.ErrNone)
	}
	// The empty id is nobody's, even of several that have one.
	checkFind(t, parsed(t, "<a ID=''/>"), "", 0, api.ErrNone)
	checkFind(t, parsed(t, "<a ID=''><b ID=''/></a>"), "", 0, api.ErrNone)
	checkFind(t, parsed(t, "<a><b ID='1'/><b ID='1'/><b ID='1'/></a>"), "1", 0, api.ErrMany)
	checkFind(t, parsed(t, "<a ID='1'><b ID='1'/></a>"), "1", 0, api.ErrMany)
	// By hand: of two attributes of one name the first one counts, as Attr has it, and an element is found once.
	d = doc(elem(-1, "a", 1), elem(0, "b"))
	d.Nodes[1].Attrs = []api.Attr{{Local: "ID", Value: "1"}, {Local: "ID", Value: "2"}, {Local: "ID", Value: "1"}}
	checkFind(t, d, "1", 1, api.OK)
	checkFind(t, d, "2", 0, api.ErrNone)
	d.Nodes[1].Attrs[0].Prefix = "p"
	checkFind(t, d, "2", 1, api.OK)
	checkFind(t, d, "1", 0, api.ErrNone)
}

func TestInside(t *testing.T) {
	d := parsed(t, family)
	for top, want := range map[int][]int{0: {0, 1, 2, 3, 4, 5, 6, 7, 8, 9, 10, 11}, 1: {1, 2, 3, 4}, 5: {5, 6}, 6: {6}, 7: {7}, 10: {10}, 2: nil, 3: nil, 8: nil, 11: nil} {
		for i := range d.Nodes {
			is := false
			for _, w := range want {
				is = is || w == i
			}
			if Inside(d, i, top) != is {
				t.Errorf("P12.3: Inside(%d, %d): %v", i, top, !is)
			}
		}
	}
	// By hand: what is within an element needn't stand right behind it.
	d = doc(elem(-1, "a", 1, 2), elem(0, "b", 3), elem(0, "c"), elem(1, "d", 4), leaf(api.Chars, 3, "t"))
	for _, x := range []struct {
		i, top int
		want   bool
	}{{3, 1, true}, {4, 1, true}, {4, 3, true}, {2, 1, false}, {3, 2, false}, {4, 2, false}, {1, 3, false}, {4, 0, true}, {0, 0, true}, {4, 4, false}} {
		if Inside(d, x.i, x.top) != x.want {
			t.Errorf("P12.3: Inside(%d, %d): %v", x.i, x.top, !x.want)
		}
	}
}

func checkScope(t *testing.T, d api.Doc, i int, prefix, want string, has bool) {
	t.Helper()
	if got, found := Scope(d, i, prefix); got != want || found != has {
		t.Errorf("P12.3: Scope(%d, %q): %q, %v, not %q, %v", i, prefix, got, found, want, has)
	}
}

func TestScope(t *testing.T) {
	d := parsed(t, family)
	checkScope(t, d, 0, "", "u", true)
	checkScope(t, d, 0, "p", "v", true)
	checkScope(t, d, 1, "", "u", true)
	checkScope(t, d, 5, "", "w", true)
	checkScope(t, d, 6, "", "w", true)
	checkScope(t, d, 6, "p", "v", true)
	checkScope(t, d, 7, "", "u", true)
	checkScope(t, d, 6, "xml", spaceOfXML, true)
	for _, prefix := range []string{"q", "P", "pp", "u", "xmlns", "XML", "xm", "xmlx"} {
		checkScope(t, d, 6, prefix, "", false)
	}
	d = parsed(t, "<a xmlns:p='1'><b xmlns:p='2'><c xmlns:p='3' xmlns:q='4'/><d xmlns='5'><e xmlns=''/></d></b><f/></a>")
	for i, want := range []string{"1", "2", "3", "2", "2", "1"} {
		checkScope(t, d, i, "p", want, true)
		checkScope(t, d, i, "q", map[int]string{2: "4"}[i], i == 2)
		checkScope(t, d, i, "xml", spaceOfXML, true)
	}
	// A declaration that takes the empty prefix away is one.
	checkScope(t, d, 0, "", "", false)
	checkScope(t, d, 2, "", "", false)
	checkScope(t, d, 3, "", "5", true)
	checkScope(t, d, 4, "", "", true)
}

func TestScopeOfXML(t *testing.T) {
	d := parsed(t, "<a xmlns:xml='"+spaceOfXML+"'><b/></a>")
	checkScope(t, d, 0, "xml", spaceOfXML, true)
	checkScope(t, d, 1, "xml", spaceOfXML, true)
	// By hand: what a declaration says counts, whatever it is; of two the first one.
	d = doc(elem(-1, "a", 1), elem(0, "b"))
	d.Nodes[0].Decls = []api.Decl{{Prefix: "xml", URI: "u"}, {Prefix: "p", URI: "1"}, {Prefix: "p", URI: "2"}, {URI: ""}, {URI: "3"}}
	d.Nodes[1].Decls = []api.Decl{{Prefix: "q", URI: "4"}, {Prefix: "p", URI: ""}}
	for i, p := range []string{"1", ""} {
		checkScope(t, d, i, "xml", "u", true)
		checkScope(t, d, i, "p", p, true)
		checkScope(t, d, i, "", "", true)
	}
	checkScope(t, d, 0, "q", "", false)
	d.Nodes[1].Decls[0] = api.Decl{Prefix: "xml", URI: ""}
	checkScope(t, d, 1, "xml", "", true)
	checkScope(t, d, 0, "xml", "u", true)
}

func TestDeepTrees(t *testing.T) {
	const deep = 1 << 16
	d := api.Doc{Nodes: make([]api.Node, deep)}
	for i := range deep {
		d.Nodes[i] = elem(i-1, "a")
		if i+1 < deep {
			d.Nodes[i].Kids = []int{i + 1}
		}
	}
	d.Nodes[0].Decls = []api.Decl{{Prefix: "p", URI: "u"}}
	d.Nodes[deep-1].Attrs = []api.Attr{{Local: "ID", Value: "1"}}
	if !Right(d) || !Inside(d, deep-1, 0) || !Inside(d, deep-1, deep-2) || Inside(d, 0, deep-1) {
		t.Error("P12.3: of a deep tree")
	}
	checkScope(t, d, deep-1, "p", "u", true)
	checkFind(t, d, "1", deep-1, api.OK)
	checkWrite(t, d, "<a xmlns:p=\"u\">"+strings.Repeat("<a>", deep-2)+"<a ID=\"1\">"+strings.Repeat("</a>", deep))
	d.Nodes[deep-1].Parent = deep
	if Right(d) {
		t.Error("P12.1: of a deep tree")
	}
}

func TestWideTrees(t *testing.T) {
	const wide = 1 << 18
	d := api.Doc{Nodes: make([]api.Node, wide)}
	d.Nodes[0] = elem(-1, "a")
	for i := 1; i < wide; i++ {
		d.Nodes[i] = leaf(api.Chars, 0, "t")
		d.Nodes[0].Kids = append(d.Nodes[0].Kids, i)
		d.Nodes[0].Attrs = append(d.Nodes[0].Attrs, api.Attr{Local: "x", Value: "v"})
	}
	checkContent(t, d, 0, strings.Repeat("t", wide-1), api.OK)
	checkAttr(t, d, 0, "y", "", false)
	checkWrite(t, d, "<a"+strings.Repeat(" x=\"v\"", wide-1)+">"+strings.Repeat("t", wide-1)+"</a>")
}
