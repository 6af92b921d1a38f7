package tree

import (
	"math/rand"
	"strconv"
	"strings"
	"testing"

	"lanyard/api"
	"lanyard/chars"
	"lanyard/xml"
)

// brief is the beginning of a text, to be told of.
func brief(s string) string {
	if len(s) > 300 {
		return s[:300] + ".."
	}
	return s
}

func checkWrite(t *testing.T, d api.Doc, want string) {
	t.Helper()
	if got, err := Write(d); got != want || err != api.OK {
		t.Errorf("P12.4: Write: %q, %d, not %q", brief(got), err, brief(want))
	}
}

// checkAgain looks that a tree that came from Parse is written so that Parse makes it again.
func checkAgain(t *testing.T, d api.Doc) {
	t.Helper()
	s, err := Write(d)
	if err != api.OK {
		t.Fatalf("P12.4: Write: %d", err)
	}
	again, err := xml.Parse([]byte(s))
	if err != api.OK || !sameNodes(again.Nodes, d.Nodes) {
		t.Fatalf("P12.4: Parse of Write: %q, %d: %+v, not %+v", brief(s), err, again.Nodes, d.Nodes)
	}
	checkWrite(t, again, s)
}

func TestWrite(t *testing.T) {
	for s, want := range map[string]string{
		"<a x='1'/>": `<a x="1"></a>`,
		family:       `<a xmlns="u" xmlns:p="v" ID="1" x="2"><b ID="2" p:ID="1">t<!--c-->u</b><p:b xmlns="w" ID="2"><c></c></p:b><b></b><?t d?><?t?><p:c p:x="3" x="4"></p:c>end</a>`,
		"<a/>":       "<a></a>",
		"<?xml version='1.0'?><!--c--><?t?>\n<a\n>\n</a\t>\n<!--c-->": "<a>\n</a>",
		"<a y='1' xmlns:q='u' x='2' xmlns='v' q:x='3' xmlns:p='w'/>":  `<a xmlns:q="u" xmlns="v" xmlns:p="w" y="1" x="2" q:x="3"></a>`,
		"<p:a xmlns:p='u'><p:b/>t</p:a>":                              `<p:a xmlns:p="u"><p:b></p:b>t</p:a>`,
		"<a xmlns='u'><b xmlns=''/></a>":                              `<a xmlns="u"><b xmlns=""></b></a>`,
		"<a xmlns:xml='" + spaceOfXML + "' xml:lang='en'/>":           `<a xmlns:xml="` + spaceOfXML + `" xml:lang="en"></a>`,
		"<a xml:lang=''/>":                                `<a xml:lang=""></a>`,
		"<é:ü xmlns:é='ö'>ä</é:ü>":                        `<é:ü xmlns:é="ö">ä</é:ü>`,
		"<a><![CDATA[<b>]]>&amp;&#60;&#x3E;</a>":          "<a>&lt;b&gt;&amp;&lt;&gt;</a>",
		"<a><!----><!-- c --><!--<b/>&amp;]]>--></a>":     "<a><!----><!-- c --><!--<b/>&amp;]]>--></a>",
		"<a><?t?><?t ?><?t  d?><?t d ?><?t <&amp;>?></a>": "<a><?t?><?t?><?t d?><?t d ?><?t <&amp;>?></a>",
		"<a>1<b>2<c>3</c>4</b>5<b/>6</a>":                 "<a>1<b>2<c>3</c>4</b>5<b></b>6</a>",
		"<a>]]&gt;</a>":                                   "<a>]]&gt;</a>",
	} {
		d := parsed(t, s)
		checkWrite(t, d, want)
		checkAgain(t, d)
	}
}

func TestWriteByHand(t *testing.T) {
	for want, d := range map[string]api.Doc{
		// Children stand as their numbers rise, whatever stands between them.
		"<a><b><d></d>u</b><c>t</c></a>": doc(elem(-1, "a", 1, 2), elem(0, "b", 3, 5), elem(0, "c", 4), elem(1, "d"), leaf(api.Chars, 2, "t"), leaf(api.Chars, 1, "u")),
		"<a>tu</a>":                      doc(elem(-1, "a", 1, 2, 3), leaf(api.Chars, 0, "t"), leaf(api.Chars, 0, ""), leaf(api.Chars, 0, "u")),
		// What isn't a name or a comment is written as it stands; what a node has that its kind has not isn't.
		"<></>": doc(api.Node{Kind: api.Elem, Parent: -1, Space: "u", Value: "v"}),
		"<p: xmlns:q=\"\" xmlns=\"\" =\"\" r:=\"&amp;\"></p:>": doc(api.Node{Kind: api.Elem, Parent: -1, Prefix: "p", Decls: []api.Decl{{Prefix: "q"}, {}}, Attrs: []api.Attr{{}, {Prefix: "r", Space: "u", Value: "&"}}}),
		"<a><!----\r\t<&>--><?p ?>?>\xFF</a>":                  doc(elem(-1, "a", 1, 2, 3), api.Node{Kind: api.Comment, Prefix: "p", Local: "l", Value: "--\r\t<&>"}, api.Node{Kind: api.Proc, Prefix: "q", Local: "p", Value: "?>"}, api.Node{Kind: api.Chars, Prefix: "p", Local: "l", Value: "\xFF"}),
		"<a><? ?><?  \r\n<?></a>":                              doc(elem(-1, "a", 1, 2), proc(0, " ", ""), proc(0, "", " \r\n<")),
		"<a x=\"1\" x=\"1\"></a>":                              doc(api.Node{Kind: api.Elem, Parent: -1, Local: "a", Attrs: []api.Attr{{Local: "x", Value: "1"}, {Local: "x", Value: "1"}}}),
	} {
		checkWrite(t, d, want)
	}
}

// Each character up to U+2FF and some beyond it, as a reference, in a text, an attribute and a declaration.
func TestWriteOfEachCharacter(t *testing.T) {
	inText := map[rune]string{'&': "&amp;", '<': "&lt;", '>': "&gt;", '\r': "&#xD;"}
	inAttr := map[rune]string{'&': "&amp;", '<': "&lt;", '"': "&quot;", '\t': "&#x9;", '\n': "&#xA;", '\r': "&#xD;"}
	list := []rune{0x2028, 0xD7FF, 0xE000, 0xFFFD, 0x10000, 0x1F600, 0x10FFFF}
	for c := range rune(0x300) {
		list = append(list, c)
	}
	for _, c := range list {
		if chars.Bad([]byte(string(c))) >= 0 {
			continue
		}
		ref := "&#" + strconv.Itoa(int(c)) + ";"
		text, attr := string(c), string(c)
		if other := inText[c]; other != "" {
			text = other
		}
		if other := inAttr[c]; other != "" {
			attr = other
		}
		d := parsed(t, "<a xmlns:p='u"+ref+"' xmlns='"+ref+"' x='"+ref+"y' p:x='"+ref+ref+"'>"+ref+"<b/>t"+ref+ref+"u</a>")
		checkWrite(t, d, `<a xmlns:p="u`+attr+`" xmlns="`+attr+`" x="`+attr+`y" p:x="`+attr+attr+`">`+text+"<b></b>t"+text+text+"u</a>")
		checkAgain(t, d)
	}
}

// What is in comments and instructions stands for itself, whatever layer 3 would write otherwise.
func TestWriteOfCommentsAndInstructions(t *testing.T) {
	for _, value := range []string{"", "c", " ", "&", "<", ">", `"`, "'", "\t", "\n", "&amp;", "<b x=\"1\">", "]]>", "-", "- -", "?", "? >", "é", "a\n\tb ", "<!-", "->"} {
		if !strings.HasSuffix(value, "-") {
			d := parsed(t, "<a>t<!--"+value+"-->u</a>")
			checkWrite(t, d, "<a>t<!--"+value+"-->u</a>")
			checkAgain(t, d)
		}
		d := parsed(t, "<a>t<?p\n"+value+"?>u</a>")
		if kept := strings.TrimLeft(value, " \t\n"); kept != "" {
			checkWrite(t, d, "<a>t<?p "+kept+"?>u</a>")
		} else {
			checkWrite(t, d, "<a>t<?p?>u</a>")
		}
		checkAgain(t, d)
	}
}

func TestWriteAtTheLimits(t *testing.T) {
	many := ""
	for i := range 16 {
		n := strconv.Itoa(i)
		many += " xmlns:p" + n + "='u" + n + "' p" + n + ":x='&#10;'"
	}
	for _, s := range []string{
		"<a>" + strings.Repeat("<b/>", 4095) + "</a>",
		"<a>" + strings.Repeat("t<!---->", 2047) + "t</a>",
		strings.Repeat("<a>", 32) + strings.Repeat("</a>", 32),
		"<a" + many + "/>",
		"<a>" + strings.Repeat("t", 65529) + "</a>",
		"<a>" + strings.Repeat("&lt;", 16382) + "</a>",
	} {
		checkAgain(t, parsed(t, s))
	}
	// Behind this the text that is written is longer than Parse takes, and written all the same.
	checkWrite(t, parsed(t, "<a x='"+strings.Repeat(`"`, 65000)+"'>"+strings.Repeat(">", 500)+"</a>"), `<a x="`+strings.Repeat("&quot;", 65000)+`">`+strings.Repeat("&gt;", 500)+"</a>")
}

// author makes texts that layer 11 reads, most of them.
type author struct{ *rand.Rand }

func (a author) one(of ...string) string { return of[a.Intn(len(of))] }

func (a author) some(n int, of ...string) string {
	s := ""
	for range a.Intn(n) {
		s += a.one(of...)
	}
	return s
}

func (a author) value() string {
	return a.some(5, "v", " ", "\t", "\n", "\r\n", "&#9;", "&#xA;", "&#13;", "&lt;", "&amp;", "&quot;", "&apos;", "\"", ">", "]]>", "é", "&#x1F600;")
}

func (a author) start() string {
	s := ""
	for _, at := range a.Perm(7)[:a.Intn(5)] {
		s += a.one(" ", "\n") + []string{"xmlns", "xmlns:p", "xmlns:q", "x", "p:x", "xml:x", "y"}[at] + "='" + a.one("u", "v", a.value()) + "'"
	}
	return s
}

func (a author) content(deep int) string {
	s := ""
	for range a.Intn(6) {
		switch a.Intn(6) {
		case 0:
			s += "<!--" + a.some(4, "c", " ", "\r", "<b>", "&", "- ") + "-->"
		case 1:
			s += "<?t" + a.one("", " ", "\n\n") + "?>"
		case 2:
			s += "<?t " + a.some(4, "d", " ", "\r\n", "<", "?", "'") + "?>"
		case 3:
			s += "<![CDATA[" + a.some(4, "<b>", "&amp;", "]]", "\r", "t") + "]]>"
		case 4:
			if deep > 0 {
				s += a.element(deep - 1)
			}
		default:
			s += a.some(5, "t", " ", "\n", "\r\n", "&#13;", "&lt;", "&gt;", "&amp;", "'", "\"", ">", "]]", "é", "&#9;")
		}
	}
	return s
}

func (a author) element(deep int) string {
	n := a.one("a", "b", "p:a", "q:b", "é", "xml:a")
	return "<" + n + a.start() + ">" + a.content(deep) + "</" + n + ">"
}

func TestWriteAndParseOfManyTrees(t *testing.T) {
	a := author{rand.New(rand.NewSource(12))}
	read, nodes := 0, 0
	for range 20000 {
		s := "<r xmlns:p='u:p' xmlns:q='u:q'>" + a.element(4) + a.content(3) + "</r>"
		d, err := xml.Parse([]byte(s))
		if err != api.OK {
			continue
		}
		checkAgain(t, d)
		checkCalls(t, d)
		read++
		nodes = max(nodes, len(d.Nodes))
	}
	if read < 5000 || nodes < 40 {
		t.Errorf("only %d texts were read, with at most %d nodes", read, nodes)
	}
}
