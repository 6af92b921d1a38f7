package xml

import (
	"math/rand"
	"strconv"
	"strings"
	"testing"

	"lanyard/api"
)

// writer writes a tree, each time in another way.
type writer struct {
	*rand.Rand
	nodes []api.Node
}

func (w writer) one(of ...string) string { return of[w.Intn(len(of))] }

func (w writer) blanks() string {
	return w.one("", "", " ", "\n", "\t", "\r\n", " \r ", "\n\n")
}

func (w writer) someBlanks() string {
	return w.one(" ", " ", "\n", "\t", "\r", "\r\n") + w.blanks()
}

// reference is a character as one of its references.
func (w writer) reference(c rune) string {
	named := map[rune]string{'&': "&amp;", '<': "&lt;", '>': "&gt;", '"': "&quot;", '\'': "&apos;"}[c]
	if named != "" && w.Intn(2) == 0 {
		return named
	}
	if w.Intn(2) == 0 {
		return "&#" + strings.Repeat("0", w.Intn(2)) + strconv.Itoa(int(c)) + ";"
	}
	hex := strconv.FormatInt(int64(c), 16)
	return "&#x" + strings.Repeat("0", w.Intn(3)) + w.one(hex, strings.ToUpper(hex)) + ";"
}

// lines has each line end as one of them.
func (w writer) lines(s string) string {
	var b strings.Builder
	for _, c := range s {
		if c == '\n' {
			// None that becomes one with a line end behind it.
			b.WriteString(w.one("\n", "\r\n"))
			continue
		}
		b.WriteRune(c)
	}
	return b.String()
}

func (w writer) text(s string) string {
	var b strings.Builder
	for _, c := range s {
		switch {
		case c == '\r' || w.Intn(6) == 0:
			b.WriteString(w.reference(c))
		case w.Intn(6) == 0:
			b.WriteString("<![CDATA[" + w.lines(string(c)) + "]]>")
		case c == '<' || c == '&' || c == '>':
			b.WriteString(w.reference(c))
		default:
			b.WriteString(w.lines(string(c)))
		}
		if w.Intn(20) == 0 {
			b.WriteString("<![CDATA[]]>")
		}
	}
	return b.String()
}

func (w writer) value(s string) string {
	var b strings.Builder
	mark := w.one("'", `"`)
	b.WriteString(mark)
	for _, c := range s {
		switch {
		case c == ' ' && w.Intn(2) == 0:
			b.WriteString(w.one("\t", "\n", "\r\n"))
		case c == '\t' || c == '\n' || c == '\r' || c == '<' || c == '&' || string(c) == mark || w.Intn(6) == 0:
			b.WriteString(w.reference(c))
		default:
			b.WriteRune(c)
		}
	}
	return b.String() + mark
}

func (w writer) attr(prefix, local, value string) string {
	return w.someBlanks() + name{prefix, local}.text() + w.blanks() + "=" + w.blanks() + w.value(value)
}

// node is one's text, and that of all within it. Declarations and attributes stand in their orders, but may be mixed.
func (w writer) node(i int) string {
	n := w.nodes[i]
	switch n.Kind {
	case api.Chars:
		return w.text(n.Value)
	case api.Comment:
		return "<!--" + w.lines(n.Value) + "-->"
	case api.Proc:
		if n.Value == "" {
			return "<?" + n.Local + w.blanks() + "?>"
		}
		return "<?" + n.Local + w.someBlanks() + w.lines(n.Value) + "?>"
	}
	called := name{n.Prefix, n.Local}.text()
	s := "<" + called
	for decls, attrs := n.Decls, n.Attrs; len(decls)+len(attrs) > 0; {
		if len(attrs) == 0 || len(decls) > 0 && w.Intn(2) == 0 {
			d := decls[0]
			decls = decls[1:]
			if d.Prefix == "" {
				s += w.attr("", "xmlns", d.URI)
			} else {
				s += w.attr("xmlns", d.Prefix, d.URI)
			}
			continue
		}
		s += w.attr(attrs[0].Prefix, attrs[0].Local, attrs[0].Value)
		attrs = attrs[1:]
	}
	s += w.blanks()
	if len(n.Kids) == 0 && w.Intn(2) == 0 {
		return s + "/>"
	}
	s += ">"
	for _, k := range n.Kids {
		s += w.node(k)
	}
	if len(n.Kids) == 0 {
		s += w.one("", "<![CDATA[]]>")
	}
	return s + "</" + called + w.blanks() + ">"
}

func (w writer) outside() string {
	s := ""
	for range w.Intn(4) {
		s += w.one(" ", "\r\n", "<!---->", "<!-- <b> -->", "<?t?>", "<?t d ?>")
	}
	return s
}

func (w writer) document() string {
	s := ""
	if w.Intn(2) == 0 {
		eq := w.blanks() + "=" + w.blanks()
		s = "<?xml" + w.someBlanks() + "version" + eq + w.one("'1.0'", `"1.0"`)
		if w.Intn(2) == 0 {
			s += w.someBlanks() + "encoding" + eq + w.one("'UTF-8'", `"utf-8"`)
		}
		if w.Intn(2) == 0 {
			s += w.someBlanks() + "standalone" + eq + w.one("'yes'", `"no"`)
		}
		s += w.blanks() + "?>"
	}
	return s + w.outside() + w.node(0) + w.outside()
}

// grower makes trees.
type grower struct {
	*rand.Rand
	nodes []api.Node
}

func (g *grower) one(of ...string) string { return of[g.Intn(len(of))] }

func (g *grower) value() string {
	s := ""
	for range g.Intn(6) {
		s += g.one("v", " ", "\t", "\n", "\r", "<", ">", "&", "'", `"`, "]", "é", "\U0001F600", "]]>", "--", "?>", "&amp;", ";", "#")
	}
	return s
}

// words is a value that may stand in a comment, and in an instruction at its beginning.
func (g *grower) words() string {
	s := ""
	for range g.Intn(4) {
		s += g.one("w", "<b>", "&amp;", "]]>", "é", "'", "?") + g.one("", " ", "\n", "\t")
	}
	return s
}

// spaces are what the prefixes stand for in the whole tree.
var spaces = map[string]string{"p": "u:p", "q": "u:q & more", "xml": spaceOfXML}

// grow makes an element, and what is in it.
func (g *grower) grow(parent, deep int, space string) {
	i := len(g.nodes)
	n := api.Node{Kind: api.Elem, Parent: parent, Prefix: g.one("", "", "p", "q", "xml"), Local: g.one("a", "b", "é", "long-name.1")}
	if parent == -1 {
		n.Decls = []api.Decl{{Prefix: "q", URI: spaces["q"]}, {Prefix: "p", URI: spaces["p"]}}
	}
	if g.Intn(3) == 0 {
		space = g.one("", "u:d", "u:p", " ")
		n.Decls = append(n.Decls, api.Decl{URI: space})
	}
	n.Space = space
	if n.Prefix != "" {
		n.Space = spaces[n.Prefix]
	}
	for _, at := range g.Perm(4)[:g.Intn(4)] {
		prefix := []string{"", "p", "q", "xml"}[at]
		n.Attrs = append(n.Attrs, api.Attr{Prefix: prefix, Local: g.one("x", "y", "xmlnsx"), Space: spaces[prefix], Value: g.value()})
	}
	g.nodes = append(g.nodes, n)
	inText := false
	for range g.Intn(6) {
		at, kind := len(g.nodes), 1+g.Intn(4)
		switch {
		case kind == api.Elem && deep > 0:
			g.grow(i, deep-1, space)
		case kind == api.Chars && !inText:
			g.nodes = append(g.nodes, leaf(api.Chars, i, "t"+g.value()))
		case kind == api.Comment:
			g.nodes = append(g.nodes, leaf(api.Comment, i, g.words()))
		case kind == api.Proc:
			g.nodes = append(g.nodes, proc(i, g.one("t", "xml-t", "é"), g.words()))
		default:
			continue
		}
		inText = kind == api.Chars
		g.nodes[i].Kids = append(g.nodes[i].Kids, at)
	}
}

func TestEachWayOfWritingIsOneTree(t *testing.T) {
	r := rand.New(rand.NewSource(4))
	most := 0
	for range 1500 {
		g := grower{Rand: r}
		g.grow(-1, 4, "")
		most = max(most, len(g.nodes))
		for range 6 {
			s := writer{r, g.nodes}.document()
			d, err := Parse([]byte(s))
			if err != api.OK || !sameNodes(d.Nodes, g.nodes) {
				t.Fatalf("P11.2: Parse(%q): %d, %+v; wanted %+v", s, err, d.Nodes, g.nodes)
			}
		}
	}
	if most < 50 {
		t.Errorf("the greatest tree has only %d nodes", most)
	}
}

func TestWhatChangesNothing(t *testing.T) {
	for _, same := range [][]string{
		{"<a/>", "<a />", "<a></a>", "<a\n></a\t>", "<a><![CDATA[]]></a>", " <a/> ", "<?xml version='1.0'?><a/>", "<?xml version='1.0' encoding='utf-8' standalone='no'?>\n<a/>", "<!--c--><a/><?t?>"},
		{"<a x='1'/>", `<a x="1"/>`, "<a x = '1' />", "<a\nx\t=\r\n\"1\"></a>", "<a x='&#49;'/>", "<a x='&#x31;'/>"},
		{"<a x='&quot;&apos;'/>", `<a x="&#34;'"/>`, `<a x='"&#x27;'/>`},
		{"<a x='1 2'/>", "<a x='1\t2'/>", "<a x='1\n2'/>", "<a x='1\r2'/>", "<a x='1\r\n2'/>", "<a x='1&#32;2'/>"},
		{"<a x='1&#10;2'/>", "<a x='1&#xA;2'/>", "<a x=\"1&#x0a;2\"/>"},
		{"<a>1&lt;2</a>", "<a>1&#60;2</a>", "<a>1&#x3c;2</a>", "<a><![CDATA[1<2]]></a>", "<a>1<![CDATA[<]]>2</a>", "<a><![CDATA[1]]>&lt;<![CDATA[2]]></a>"},
		{"<a>1\n2</a>", "<a>1\r\n2</a>", "<a>1\r2</a>", "<a>1&#10;2</a>", "<a>1<![CDATA[\r]]>2</a>"},
		{"<a><!--1\n2--><?t 1\n2?></a>", "<a><!--1\r\n2--><?t\r\n1\r2?></a>", "<a><!--1\r2--><?t   1\r\n2?></a>"},
		{"<p:a xmlns:p='u' x='1'/>", "<p:a x='1' xmlns:p='u'/>", "<p:a x='1'  xmlns:p=\"&#117;\"></p:a>"},
	} {
		want, err := Parse([]byte(same[0]))
		if err != api.OK {
			t.Errorf("P11.2: Parse(%q): %d", same[0], err)
		}
		for _, s := range same {
			checkTree(t, "P11.2", s, want.Nodes)
		}
	}
	// What does change something.
	for _, s := range [][2]string{
		{"<a>1 2</a>", "<a>1\n2</a>"}, {"<a>1&#13;2</a>", "<a>1\r2</a>"}, {"<a x='1&#9;2'/>", "<a x='1\t2'/>"}, {"<a>1</a>", "<a> 1</a>"}, {"<a>12</a>", "<a>1<!---->2</a>"}, {"<a x='' y=''/>", "<a y='' x=''/>"}, {"<a/>", "<a xmlns=''/>"}, {"<p:a xmlns:p='u'/>", "<a xmlns='u'/>"}, {"<a>&amp;lt;</a>", "<a>&lt;</a>"}, {"<a><![CDATA[&lt;]]></a>", "<a>&lt;</a>"}, {"<a><!--c--></a>", "<a/>"}, {"<a><?t?></a>", "<a/>"}, {"<a><?t d?></a>", "<a><?t d ?></a>"}, {"<a> </a>", "<a></a>"},
	} {
		one, _ := Parse([]byte(s[0]))
		other, _ := Parse([]byte(s[1]))
		if len(one.Nodes) == 0 || len(other.Nodes) == 0 || sameNodes(one.Nodes, other.Nodes) {
			t.Errorf("P11.1: %q and %q are read as one tree", s[0], s[1])
		}
	}
}
