package xml

import (
	"slices"
	"strings"
	"testing"

	"lanyard/api"
)

const (
	// As layer 11's chapter has them.
	spaceOfXML   = "http://www.w3.org/XML/1998/namespace"
	spaceOfXMLNS = "http://www.w3.org/2000/xmlns/"
)

// sameNodes: are these two trees one? A nil list is an empty one.
func sameNodes(a, b []api.Node) bool {
	return slices.EqualFunc(a, b, func(x, y api.Node) bool {
		return x.Kind == y.Kind && x.Parent == y.Parent && x.Prefix == y.Prefix && x.Local == y.Local && x.Space == y.Space && x.Value == y.Value &&
			slices.Equal(x.Kids, y.Kids) && slices.Equal(x.Attrs, y.Attrs) && slices.Equal(x.Decls, y.Decls)
	})
}

// short is the beginning of a text, to be told of.
func short(s string) string {
	if len(s) > 200 {
		return s[:200] + ".."
	}
	return s
}

// checkTree looks that a text is read as this tree.
func checkTree(t *testing.T, what, s string, want []api.Node) {
	t.Helper()
	d, err := Parse([]byte(s))
	if err != api.OK || !sameNodes(d.Nodes, want) {
		t.Errorf("%s: Parse(%q): %d, %+v; wanted %+v", what, short(s), err, d.Nodes, want)
	}
}

// checkOK looks that a text is read.
func checkOK(t *testing.T, what, s string) {
	t.Helper()
	if d, err := Parse([]byte(s)); err != api.OK || len(d.Nodes) == 0 {
		t.Errorf("%s: Parse(%q): %d, %d nodes", what, short(s), err, len(d.Nodes))
	}
}

// checkFault looks that a text isn't read, by this error, with nothing beside it.
func checkFault(t *testing.T, what, s string, want api.Errno) {
	t.Helper()
	if d, err := Parse([]byte(s)); err != want || len(d.Nodes) != 0 {
		t.Errorf("%s: Parse(%q): %d, %d nodes; wanted %d", what, short(s), err, len(d.Nodes), want)
	}
}

// elem is an element without a space, attributes, declarations.
func elem(parent int, local string, kids ...int) api.Node {
	return api.Node{Kind: api.Elem, Parent: parent, Local: local, Kids: kids}
}

// leaf is a node of text or a comment.
func leaf(kind, parent int, value string) api.Node {
	return api.Node{Kind: kind, Parent: parent, Value: value}
}

// proc is an instruction.
func proc(parent int, target, value string) api.Node {
	return api.Node{Kind: api.Proc, Parent: parent, Local: target, Value: value}
}

// checkText looks that an element a with this content has this text, and nothing else.
func checkText(t *testing.T, content, want string) {
	t.Helper()
	if want == "" {
		checkTree(t, "P11.1", "<a>"+content+"</a>", []api.Node{elem(-1, "a")})
		return
	}
	checkTree(t, "P11.1", "<a>"+content+"</a>", []api.Node{elem(-1, "a", 1), leaf(api.Chars, 0, want)})
}

// checkValue looks that an attribute, its value written so, has this value.
func checkValue(t *testing.T, written, want string) {
	t.Helper()
	n := elem(-1, "a")
	n.Attrs = []api.Attr{{Local: "x", Value: want}}
	checkTree(t, "P11.1", "<a x="+written+"/>", []api.Node{n})
}

func TestTrees(t *testing.T) {
	example := elem(-1, "a", 1, 2)
	example.Attrs = []api.Attr{{Local: "x", Value: "1\t2"}}
	checkTree(t, "P11.1", `<a x="1&#9;2"><!--c-->t</a>`, []api.Node{example, leaf(api.Comment, 0, "c"), leaf(api.Chars, 0, "t")})

	checkTree(t, "P11.1", "<a/>", []api.Node{elem(-1, "a")})
	checkTree(t, "P11.1", "<a></a>", []api.Node{elem(-1, "a")})
	checkTree(t, "P11.1", "<a>1<b>2</b>3<c><d/></c><e/>4</a>", []api.Node{
		elem(-1, "a", 1, 2, 4, 5, 7, 8), leaf(api.Chars, 0, "1"),
		elem(0, "b", 3), leaf(api.Chars, 2, "2"),
		leaf(api.Chars, 0, "3"),
		elem(0, "c", 6), elem(5, "d"),
		elem(0, "e"), leaf(api.Chars, 0, "4"),
	})
	checkTree(t, "P11.1", "<a>\n <b/>\n</a>", []api.Node{elem(-1, "a", 1, 2, 3), leaf(api.Chars, 0, "\n "), elem(0, "b"), leaf(api.Chars, 0, "\n")})
	checkTree(t, "P11.1", "<?xml version='1.0'?><!--o--><?o o?>\n<a>t</a><!--o-->\n<?o o?>", []api.Node{elem(-1, "a", 1), leaf(api.Chars, 0, "t")})
	checkTree(t, "P11.1", "<a><a><a/></a></a>", []api.Node{elem(-1, "a", 1), elem(0, "a", 2), elem(1, "a")})
}

func TestText(t *testing.T) {
	for content, want := range map[string]string{
		"": "", " ": " ", "t": "t", "\t\n ": "\t\n ", ">": ">", "]": "]", "]]": "]]", "]>": "]>", "]] >": "]] >", "'\"": "'\"", "=/?!-": "=/?!-", ";": ";", "#65;": "#65;", "é€\U0001F600": "é€\U0001F600", "\uFFFD\uFEFF": "\uFFFD\uFEFF", "\U0010FFFF": "\U0010FFFF",
		// Line ends.
		"1\r\n2\r3\n4\r\r\n": "1\n2\n3\n4\n\n", "<![CDATA[1\r\n2\r]]>": "1\n2\n",
		// References.
		"&amp;&lt;&gt;&quot;&apos;": "&<>\"'", "&amp;lt;": "&lt;", "&#38;lt;": "&lt;", "&#65;": "A", "&#x41;": "A", "&#x6a;&#x6A;": "jj", "&#00000065;": "A", "&#x00000041;": "A", "&#9;&#10;&#13;&#32;": "\t\n\r ", "&#xD;&#xA;": "\r\n", "a&#x1F600;b": "a\U0001F600b", "&#xFFFD;&#xE000;&#xD7FF;": "\uFFFD\uE000\uD7FF", "&#1114111;&#x10FFFF;": "\U0010FFFF\U0010FFFF", "&#x10000;": "\U00010000", "&#233;": "é", "&#127;": "\x7F",
		// ]]> that isn't written so.
		"]]&gt;": "]]>", "]]&#62;": "]]>", "&#93;]>": "]]>", "]&#x5D;>": "]]>", "]]<![CDATA[>]]>": "]]>", "]]<![CDATA[]]>>": "]]>", "<![CDATA[]]]]>>": "]]>", "<![CDATA[]]]]><![CDATA[>]]>": "]]>",
		// Sections.
		"<![CDATA[]]>": "", "<![CDATA[]]><![CDATA[]]>": "", "<![CDATA[t]]>": "t", "<![CDATA[<b>&amp;&#65;</b><!--]]>": "<b>&amp;&#65;</b><!--", "<![CDATA[]]]>": "]", "<![CDATA[]]]]>": "]]", "<![CDATA[]>]]>": "]>", "<![CDATA[<![CDATA[]]>": "<![CDATA[", "<![CDATA[ ]] > ]]>": " ]] > ",
		// Text that stands next to text.
		"1<![CDATA[2]]>3&#52;<![CDATA[]]>5": "12345", "<![CDATA[1]]><![CDATA[2]]>": "12", "<![CDATA[]]>1": "1", "&lt;1&gt;": "<1>",
	} {
		checkText(t, content, want)
	}
	checkTree(t, "P11.1", "<a>1<!---->2<?t?>3<b/>4</a>", []api.Node{
		elem(-1, "a", 1, 2, 3, 4, 5, 6, 7), leaf(api.Chars, 0, "1"), leaf(api.Comment, 0, ""), leaf(api.Chars, 0, "2"), proc(0, "t", ""), leaf(api.Chars, 0, "3"), elem(0, "b"), leaf(api.Chars, 0, "4"),
	})
}

func TestCommentsAndInstructions(t *testing.T) {
	for content, want := range map[string]string{
		"<!---->": "", "<!-- -->": " ", "<!--c-->": "c", "<!--->-->": "->", "<!-->-->": ">", "<!--a-b-c-->": "a-b-c", "<!---a-->": "-a", "<!-- - - -->": " - - ", "<!--<b>&amp;&x;&]]><?t?>-->": "<b>&amp;&x;&]]><?t?>", "<!--1\r\n2-->": "1\n2", "<!--é-->": "é", "<!--<!-->": "<!", "<!-- ->-->": " ->", "<!--<!DOCTYPE a>-->": "<!DOCTYPE a>",
	} {
		checkTree(t, "P11.1", "<a>"+content+"</a>", []api.Node{elem(-1, "a", 1), leaf(api.Comment, 0, want)})
		checkTree(t, "P11.1", content+"<a/>"+content, []api.Node{elem(-1, "a")})
	}
	for content, want := range map[string][2]string{
		"<?t?>": {"t", ""}, "<?t ?>": {"t", ""}, "<?t \t\r\n ?>": {"t", ""}, "<?t d?>": {"t", "d"}, "<?t  d e ?>": {"t", "d e "}, "<?t\nd?>": {"t", "d"}, "<?t\rd\r\n?>": {"t", "d\n"}, "<?t ??>": {"t", "?"}, "<?t ? ?>": {"t", "? "}, "<?t >?>": {"t", ">"}, "<?t ?a>?>": {"t", "?a>"}, "<?t <b>&x;--]]>?>": {"t", "<b>&x;--]]>"}, "<?xml-x y='1'?>": {"xml-x", "y='1'"}, "<?xmlx?>": {"xmlx", ""}, "<?xm?>": {"xm", ""}, "<?_?>": {"_", ""}, "<?é1 é?>": {"é1", "é"}, "<?t <?u?>": {"t", "<?u"},
	} {
		checkTree(t, "P11.1", "<a>"+content+"</a>", []api.Node{elem(-1, "a", 1), proc(0, want[0], want[1])})
		checkTree(t, "P11.1", content+"<a/>"+content, []api.Node{elem(-1, "a")})
	}
}

func TestValues(t *testing.T) {
	for written, want := range map[string]string{
		"''": "", `""`: "", "'v'": "v", `"v"`: "v", `'"'`: `"`, `"'"`: "'", "'>'": ">", "'/>'": "/>", "']]>'": "]]>", "'='": "=", "'  v  '": "  v  ", "'é\U0001F600'": "é\U0001F600", "'--'": "--", "'?>'": "?>", "';'": ";",
		// Each blank that isn't a reference is a 20.
		"'1\t2\n3 4'": "1 2 3 4", "'1\r\n2\r3'": "1 2 3", "'\n\n'": "  ", "'\t'": " ", "'\r'": " ", "'\r\n'": " ",
		"'1&#9;2&#10;3&#13;4&#32;5'": "1\t2\n3\r4 5", "'&#xD;&#xA;'": "\r\n", "'\n&#xA;\n'": " \n ", "'&#13;\n'": "\r ",
		"'&amp;&lt;&gt;&quot;&apos;'": "&<>\"'", "\"&quot;\"": `"`, "'&apos;'": "'", "'&amp;#65;'": "&#65;", "'&#38;#65;'": "&#65;", "'&#x41;b'": "Ab",
	} {
		checkValue(t, written, want)
		checkValue(t, " \r\n"+written, want)
		checkValue(t, written+" ", want)
		checkValue(t, written+"\t\n", want)
	}
}

func TestNames(t *testing.T) {
	long := strings.Repeat("n", 256)
	for _, n := range []string{"a", "_", "A1", "a-b.c_d", "é", "\U00010000", "xml", "xmlns1", "aXMLNS", "\uFFFD", long, strings.Repeat("é", 128)} {
		for _, s := range []string{"<" + n + "/>", "<" + n + "></" + n + ">", "<" + n + "\n></" + n + "\t>", "<" + n + " \n/>"} {
			checkTree(t, "P11.1", s, []api.Node{elem(-1, n)})
		}
		want := elem(-1, "a")
		want.Attrs = []api.Attr{{Local: n, Value: "v"}}
		checkTree(t, "P11.1", "<a "+n+"='v'/>", []api.Node{want})
	}
	// Each half of a name may be as long as a name.
	checkTree(t, "P11.1", "<"+long+":"+long+" xmlns:"+long+"='u'></"+long+":"+long+">", []api.Node{
		{Kind: api.Elem, Parent: -1, Prefix: long, Local: long, Space: "u", Decls: []api.Decl{{Prefix: long, URI: "u"}}},
	})
	for _, n := range []string{"", "1", "-a", ".", ":", "a:", ":a", "a::b", "a:b:c", "a:1", "1:a", "a:-", "a$", "a&b;", "a<b", "a'", "a\"", "\u00D7", "a\u00D7", "\u0300", "a,b", "a;", "a]", "a+", "a(b)", long + "n", long + "n:a", "a:" + long + "n", strings.Repeat("é", 128) + "n", "a!", "?", "a?", "a=", "="} {
		for _, s := range []string{"<" + n + "/>", "<" + n + "></" + n + ">", "<a " + n + "='v'/>", "<a><" + n + "/></a>"} {
			checkFault(t, "P11.1", s, api.ErrForm)
		}
	}
}

func TestDeclarationOfADocument(t *testing.T) {
	one := []api.Node{elem(-1, "a")}
	for _, s := range []string{
		"<?xml version='1.0'?>", `<?xml version="1.0"?>`, "<?xml version='1.0' ?>", "<?xml version='1.0'\t\r\n ?>", "<?xml\nversion='1.0'?>", "<?xml\rversion='1.0'?>", "<?xml\tversion='1.0'?>", "<?xml   version \n=\t '1.0'?>", "<?xml version= \"1.0\"?>",
		"<?xml version='1.0' encoding='UTF-8'?>", "<?xml version='1.0' encoding='utf-8'?>", "<?xml version='1.0' encoding=\"Utf-8\"?>", "<?xml version='1.0' encoding='uTF-8' ?>", "<?xml version='1.0'\n\nencoding \r\n=\r\n 'UTF-8'?>",
		"<?xml version='1.0' standalone='yes'?>", "<?xml version='1.0' standalone=\"no\" ?>", "<?xml version='1.0' standalone\t=\n'no'?>",
		"<?xml version=\"1.0\" encoding='UTF-8' standalone='yes'?>", "<?xml version='1.0' encoding='utf-8' standalone='no' ?>\n", "<?xml version='1.0'?><?xml-x?>", "<?xmlx version='1.1'?>", "<?xml-x?>",
	} {
		checkTree(t, "P11.1", s+"<a/>", one)
	}
	for _, s := range []string{
		"<?xml?>", "<?xml ?>", "<?xml version?>", "<?xml version=?>", "<?xml version=1.0?>", "<?xml version=''?>", "<?xml version='1'?>", "<?xml version='1.1'?>", "<?xml version='2.0'?>", "<?xml version='1.00'?>", "<?xml version=' 1.0'?>", "<?xml version='1.0 '?>", "<?xml version='1&#46;0'?>", "<?xml version='1.0\"?>", "<?xml version=\"1.0'?>", "<?xml version='1.0?>", "<?xml version'1.0'?>", "<?xml version=='1.0'?>", "<?xml Version='1.0'?>", "<?xml VERSION='1.0'?>", "<?xml x:version='1.0'?>", "<?xml versions='1.0'?>", "<?xml version='1.0' version='1.0'?>",
		"<?xmlversion='1.0'?>", "<?xml\u00A0version='1.0'?>", "<?XML version='1.0'?>", "<?Xml version='1.0'?>", "<?xml:a version='1.0'?>", "< ?xml version='1.0'?>", "<? xml version='1.0'?>", " <?xml version='1.0'?>", "\n<?xml version='1.0'?>", "\uFEFF<?xml version='1.0'?>", "<!----><?xml version='1.0'?>", "<?xml version='1.0'?><?xml version='1.0'?>", "<?xml version='1.0'?><?xml?>", "<?xml version='1.0'?>\n<?XML ?>",
		"<?xml version='1.0'encoding='UTF-8'?>", "<?xml version='1.0' encoding='UTF8'?>", "<?xml version='1.0' encoding='UTF-16'?>", "<?xml version='1.0' encoding='latin1'?>", "<?xml version='1.0' encoding=''?>", "<?xml version='1.0' encoding=UTF-8?>", "<?xml version='1.0' encoding?>", "<?xml version='1.0' encoding=' UTF-8'?>", "<?xml version='1.0' Encoding='UTF-8'?>", "<?xml version='1.0' encodings='UTF-8'?>", "<?xml version='1.0' encoding='UTF-8' encoding='UTF-8'?>", "<?xml encoding='UTF-8'?>", "<?xml encoding='UTF-8' version='1.0'?>", "<?xml version='1.0' encoding='UTF-8\"?>", "<?xml version='1.0' encoding='UTF\u20118'?>",
		"<?xml version='1.0'standalone='yes'?>", "<?xml version='1.0' standalone='maybe'?>", "<?xml version='1.0' standalone='Yes'?>", "<?xml version='1.0' standalone='NO'?>", "<?xml version='1.0' standalone=''?>", "<?xml version='1.0' standalone=yes?>", "<?xml version='1.0' standalone='yes' encoding='UTF-8'?>", "<?xml version='1.0' encoding='UTF-8'standalone='yes'?>", "<?xml version='1.0' standalone='yes' standalone='yes'?>", "<?xml standalone='yes'?>", "<?xml version='1.0' standalone='yes ' ?>",
		"<?xml version='1.0' x='1'?>", "<?xml version='1.0' x?>", "<?xml version='1.0' ? >", "<?xml version='1.0'>", "<?xml version='1.0'/>", "<?xml version='1.0'?", "<?xml version='1.0'", "<?xml version='1.0' ", "<?xml ", "<?xml", "<?xml version='1.0'? >", "<?xml version='1.0'??>",
	} {
		checkFault(t, "P11.1", s+"<a/>", api.ErrForm)
	}
	// Ahead of an element's end none is one.
	checkFault(t, "P11.1", "<a><?xml version='1.0'?></a>", api.ErrForm)
	checkFault(t, "P11.1", "<a/><?xml version='1.0'?>", api.ErrForm)
}

func TestSpaces(t *testing.T) {
	checkTree(t, "P11.1", "<a xmlns='u' x='1'><b><c xmlns=''><d/></c><e xmlns='v'/></b><f/></a>", []api.Node{
		{Kind: api.Elem, Parent: -1, Local: "a", Space: "u", Decls: []api.Decl{{URI: "u"}}, Attrs: []api.Attr{{Local: "x", Value: "1"}}, Kids: []int{1, 5}},
		{Kind: api.Elem, Parent: 0, Local: "b", Space: "u", Kids: []int{2, 4}},
		{Kind: api.Elem, Parent: 1, Local: "c", Decls: []api.Decl{{}}, Kids: []int{3}},
		{Kind: api.Elem, Parent: 2, Local: "d"},
		{Kind: api.Elem, Parent: 1, Local: "e", Space: "v", Decls: []api.Decl{{URI: "v"}}},
		{Kind: api.Elem, Parent: 0, Local: "f", Space: "u"},
	})
	// The nearest declaration counts, wherever it stands within its element, and no longer than that.
	checkTree(t, "P11.1", "<p:a p:x='' xmlns:p='u'><p:b y='' p:y='' xmlns:p='v' p:z=''/><p:c p:x=''/></p:a>", []api.Node{
		{Kind: api.Elem, Parent: -1, Prefix: "p", Local: "a", Space: "u", Decls: []api.Decl{{Prefix: "p", URI: "u"}}, Attrs: []api.Attr{{Prefix: "p", Local: "x", Space: "u"}}, Kids: []int{1, 2}},
		{Kind: api.Elem, Parent: 0, Prefix: "p", Local: "b", Space: "v", Decls: []api.Decl{{Prefix: "p", URI: "v"}}, Attrs: []api.Attr{{Local: "y"}, {Prefix: "p", Local: "y", Space: "v"}, {Prefix: "p", Local: "z", Space: "v"}}},
		{Kind: api.Elem, Parent: 0, Prefix: "p", Local: "c", Space: "u", Attrs: []api.Attr{{Prefix: "p", Local: "x", Space: "u"}}},
	})
	// Declarations and attributes stand in the order of the text.
	checkTree(t, "P11.1", "<a z='1' xmlns:q='v' y='2' xmlns='d' xmlns:p='u' q:y='3' p:z='4'/>", []api.Node{
		{Kind: api.Elem, Parent: -1, Local: "a", Space: "d", Decls: []api.Decl{{Prefix: "q", URI: "v"}, {URI: "d"}, {Prefix: "p", URI: "u"}}, Attrs: []api.Attr{{Local: "z", Value: "1"}, {Local: "y", Value: "2"}, {Prefix: "q", Local: "y", Space: "v", Value: "3"}, {Prefix: "p", Local: "z", Space: "u", Value: "4"}}},
	})
	// xml's space, declared or not.
	checkTree(t, "P11.1", "<xml:a xml:x='1'/>", []api.Node{
		{Kind: api.Elem, Parent: -1, Prefix: "xml", Local: "a", Space: spaceOfXML, Attrs: []api.Attr{{Prefix: "xml", Local: "x", Space: spaceOfXML, Value: "1"}}},
	})
	checkTree(t, "P11.1", "<xml:a xmlns:xml='"+spaceOfXML+"'/>", []api.Node{
		{Kind: api.Elem, Parent: -1, Prefix: "xml", Local: "a", Space: spaceOfXML, Decls: []api.Decl{{Prefix: "xml", URI: spaceOfXML}}},
	})
	// A space is a value like others: what its references stand for, its blanks each a 20.
	checkTree(t, "P11.1", "<p:a xmlns:p=' &#117;&amp;\nv\t'/>", []api.Node{
		{Kind: api.Elem, Parent: -1, Prefix: "p", Local: "a", Space: " u& v ", Decls: []api.Decl{{Prefix: "p", URI: " u& v "}}},
	})
	// xmlns as a local name, and names that begin with it, declare nothing.
	checkTree(t, "P11.1", "<xmlns xmlnsp='1' p:xmlns='2' xmlns:p='u' xml:xmlns='3'/>", []api.Node{
		{Kind: api.Elem, Parent: -1, Local: "xmlns", Decls: []api.Decl{{Prefix: "p", URI: "u"}}, Attrs: []api.Attr{{Local: "xmlnsp", Value: "1"}, {Prefix: "p", Local: "xmlns", Space: "u", Value: "2"}, {Prefix: "xml", Local: "xmlns", Space: spaceOfXML, Value: "3"}}},
	})
	for _, s := range []string{
		"<a xmlns:p='u' xmlns:q='u'/>", "<a xmlns='u' xmlns:q='u'/>", "<a xmlns:p='u' x='' p:x=''/>", "<a xmlns='u' xmlns:p='u' x='' p:x=''/>", "<a xmlns:p='u' xmlns:q='v' p:x='' q:x=''/>", "<a xmlns:p='u' xmlns:q='U' p:x='' q:x=''/>", "<a xmlns:p='u' xmlns:q='u' p:x='' q:y=''/>", "<a xmlns=''/>", "<a xmlns:XML='u' XML:x=''/>", "<a xmlns:Xmlns='u' Xmlns:x=''/>", "<a xmlns:p='" + spaceOfXML + "/'/>", "<a xmlns:p='" + spaceOfXMLNS + "x'/>", "<a xmlns:p='" + strings.ToUpper(spaceOfXML) + "'/>", "<a xmlns=' '/>", "<a xmlns:p=' '/>",
		"<a xmlns:p='u' xmlns:q='v'><b p:x='' q:x=''/></a>", "<a xmlns:p='u'><b xmlns:q='v' p:x='' q:x=''/></a>", "<a xmlns:p='u'><b xmlns:p='v' xmlns:q='u' p:x='' q:x=''/></a>",
	} {
		checkOK(t, "P11.1", s)
	}
}
