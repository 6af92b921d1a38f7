package xml

import (
	"strings"
	"testing"

	"lanyard/api"
)

func TestNoForm(t *testing.T) {
	for _, s := range []string{
		// No element, or more than one, or something beside it.
		"", " ", "\n", "a", "<", "<a", "<a ", "<a>", "<a></", "<a></a", "<a></a ", "</a>", "<>", "</>", "< a/>", "<\na/>", "<!---->", "<?t?>", "<?xml version='1.0'?>", "&amp;", "<![CDATA[x]]>", "\uFEFF<a/>", "x<a/>", "&#32;<a/>", "<![CDATA[x]]><a/>", "<![CDATA[]]><a/>", "]]><a/>", "\u00A0<a/>", "\u0085<a/>",
		"<a/>x", "<a/><b/>", "<a/><a/>", "<a></a></a>", "<a/></a>", "<a/>&#32;", "<a/>&amp;", "<a/><![CDATA[]]>", "<a/>]]>", "<a/>\uFEFF", "<a/><", "<a/>\n<a></a>", "<a/>\u00A0", "<a/><p:b/>",
		// Elements that don't end, or elsewhere.
		"<a></b>", "<a></A>", "<a><b></a></b>", "<a><b></a>", "<a><b/>", "<a>t", "<a></ab>", "<ab></a>", "<a></a:a>", "<a xmlns:p='u'></p:a>", "<p:a xmlns:p='u'></a>", "<p:a xmlns:p='u' xmlns:q='u'></q:a>", "<p:a xmlns:p='u'></p :a>", "<a></ a>", "<a>< /a>", "<a></a x=''>", "<a></a/>", "<a></a", "<a></\na>", "<é></e\u0301>", "<a></a<",
		"<a/ >", "<a / >", "<a/", "<a/x>", "<a//>", "<a x='1'/ >", "<a / x='1'>", "<a/ x='1'>", "<a <b/>>", "<a,/>", "<a;b/>", "<a 'v'/>", "<a =''/>",
		// Attributes.
		"<a x/>", "<a x />", "<a x>", "<a x=/>", "<a x=1/>", "<a x=v'/>", "<a x='1/>", "<a x='1\"/>", "<a x=\"1'/>", "<a x='1' y/>", "<a x='1'y='2'/>", "<a x='1'\"2\"/>", "<a x='1''2'/>", "<a x=='1'/>", "<a x:='1'/>", "<a :x='1'/>", "<a x y='1'/>", "<a x:y:z='1'/>", "<a x ='1' = '2'/>", "<a\u00A0x='1'/>", "<a x=\u00A0'1'/>", "<ax='1'/>", "<a x='1'<b/></a>", "<a x=\u201C1\u201D/>", "<a 1='1'/>", "<a -x='1'/>",
		"<a x='<'/>", "<a x='<b/>'/>", "<a x='1<'/>", "<a x='&'/>", "<a x='&;'/>", "<a x='& '/>", "<a x='&amp'/>", "<a x='&b;'/>", "<a x='&#0;'/>", "<a x='&#xD800;'/>", "<a x='<![CDATA[1]]>'/>", "<a x='&l't;'/>", "<a x='&lt'/>;",
		"<a xmlns/>", "<a xmlns=u/>", "<a xmlns:='u'/>", "<a xmlns:1='u'/>", "<a xmlns:p:q='u'/>", "<a xmlns:p/>", "<a xmlns: p='u'/>", "<a xmlns :p='u'/>",
		// Comments.
		"<a><!-- -- --></a>", "<a><!-----></a>", "<a><!--a---></a>", "<a><!---></a>", "<a><!--></a>", "<a><!-></a>", "<a><!-- -></a>", "<a><!-- --", "<a><!-- -- ></a>", "<a><!- c --></a>", "<a><!--c</a>", "<a><! --c--></a>", "<a>< !--c--></a>", "<a><!--c-- ></a>", "<!-----><a/>", "<a/><!--a--->", "<a/><!--", "<a/><!-", "<a/><!", "<a/><!-->", "<!-- -- --><a/>", "<a><!--a--b--></a>",
		// Instructions.
		"<a><?></a>", "<a><??></a>", "<a><? ?></a>", "<a><? t?></a>", "<a><?t></a>", "<a><?t?</a>", "<a><?t ? ></a>", "<a><?t??></a>", "<a><?t/?></a>", "<a><?t=?></a>", "<a><?t'?></a>", "<a><?1?></a>", "<a><?p:t?></a>", "<a><?:t?></a>", "<a><?t:?></a>", "<a><?xml?></a>", "<a><?xml d?></a>", "<a><?XML d?></a>", "<a><?xMl?></a>", "<a><?Xml ?></a>", "<a><?xml:t?></a>", "<a>< ?t?></a>", "<a><?t d</a>", "<a><?t\u00A0d?></a>", "<a><?t&#32;d?></a>",
		"<?p:t?><a/>", "<?XML?><a/>", "<??><a/>", "<?t><a/>", "<a/><?p:t?>", "<a/><?xmL d?>", "<a/><?t", "<a/><?", "<a/><?t ?", "<a><?" + strings.Repeat("t", 257) + "?></a>",
		// Sections.
		"<a><![CDATA[</a>", "<a><![CDATA[]]</a>", "<a><![CDATA[]]", "<a><![CDATA[]>", "<a><![CDATA[]] ></a>", "<a><![cdata[]]></a>", "<a><![CDATA []]></a>", "<a><![ CDATA[]]></a>", "<a><! [CDATA[]]></a>", "<a><![CDATA</a>", "<a><![CDATA]]></a>", "<a><![]]></a>", "<a><![INCLUDE[x]]></a>", "<a></a><![CDATA[x]]>", "<a><![CDATA[]]>]]></a>",
		// Characters, and references.
		"<a>]]></a>", "<a>x]]>y</a>", "<a>]]]></a>", "<a>]]>", "<a>&amp;]]></a>", "<a><b/>]]></a>", "<a>]]>&b;</a>",
		"<a>&</a>", "<a>& </a>", "<a>&;</a>", "<a>&&</a>", "<a>&amp</a>", "<a>&amp </a>", "<a>& amp;</a>", "<a>&amp ;</a>", "<a>&AMP;</a>", "<a>&Lt;</a>", "<a>&b;</a>", "<a>&nbsp;</a>", "<a>&eacute;</a>", "<a>&amp&amp;</a>", "<a>&am<!---->p;</a>", "<a>&lt<b/>;</a>", "<a>&a", "<a>&ampx;</a>", "<a>&xamp;</a>", "<a>&amp\u037E</a>", "<a>&%;</a>",
		"<a>&#;</a>", "<a>&#x;</a>", "<a>&#</a>", "<a>&#x</a>", "<a>&#65</a>", "<a>&#65 ;</a>", "<a>&# 65;</a>", "<a>&#6 5;</a>", "<a>& #65;</a>", "<a>&#X41;</a>", "<a>&#0x41;</a>", "<a>&#41x;</a>", "<a>&x41;</a>", "<a>&#xg;</a>", "<a>&#a;</a>", "<a>&#4A;</a>", "<a>&#-65;</a>", "<a>&#+65;</a>", "<a>&#x-41;</a>", "<a>&#x+41;</a>", "<a>&#6_5;</a>", "<a>&#x4_1;</a>", "<a>&#65.0;</a>", "<a>&#6e1;</a>", "<a>&#xx41;</a>", "<a>&##65;</a>", "<a>&#\u0666;</a>", "<a>&#x\uFF11;</a>", "<a>&#0b1;</a>",
		"<a>&#000000065;</a>", "<a>&#x000000041;</a>", "<a>&#0000000065;</a>", "<a>&#0;</a>", "<a>&#x0;</a>", "<a>&#00000000;</a>", "<a>&#1;</a>", "<a>&#8;</a>", "<a>&#11;</a>", "<a>&#12;</a>", "<a>&#14;</a>", "<a>&#x1F;</a>", "<a>&#xB;</a>", "<a>&#xD800;</a>", "<a>&#xDBFF;</a>", "<a>&#xDC00;</a>", "<a>&#xDFFF;</a>", "<a>&#xD83D;&#xDE00;</a>", "<a>&#xFFFE;</a>", "<a>&#xFFFF;</a>", "<a>&#65535;</a>", "<a>&#x110000;</a>", "<a>&#1114112;</a>", "<a>&#99999999;</a>", "<a>&#xFFFFFFFF;</a>", "<a>&#x100000041;</a>", "<a>&#4294967361;</a>", "<a>&#x80000041;</a>", "<a>&#x7FFFFFFF;</a>", "<a>&#18446744073709551681;</a>", "<a>&#" + strings.Repeat("0", 60000) + "65;</a>",
		// Document types, where none might be, or not in these letters.
		"<a><!DOCTYPE a></a>", "<a>t<!DOCTYPE a></a>", "<a><b><!DOCTYPE a></b></a>", "<!doctype a><a/>", "<!Doctype a><a/>", "<! DOCTYPE a><a/>", "<!DOCTYP><a/>", "<!DOC", "<!", "<!ELEMENT a ANY><a/>", "<a><!ELEMENT a ANY></a>", "x<!DOCTYPE a><a/>", "<a/>x<!DOCTYPE a>", "<a <!DOCTYPE a>/>", "<?t<!DOCTYPE a>?><a/>", "<!-- -- <!DOCTYPE a>", "\uFEFF<!DOCTYPE a><a/>", "<?xml version='1.1'?><!DOCTYPE a><a/>", "<?xml version='1.0'<!DOCTYPE a>?><a/>", "&#32;<!DOCTYPE a><a/>", "<a>", "<a></a><b/><!DOCTYPE a>",
	} {
		checkFault(t, "P11.1", s, api.ErrForm)
	}
}

func TestNoDocumentTypes(t *testing.T) {
	for _, s := range []string{
		"<!DOCTYPE", "<!DOCTYPE a><a/>", "<!DOCTYPE a [<!ENTITY b 'c'>]><a>&b;</a>", "<!DOCTYPEx", "<!DOCTYPE>", " \n<!DOCTYPE a>", "<!--c--><!DOCTYPE a><a/>", "<?t?><!DOCTYPE a>", "<?xml version='1.0'?><!DOCTYPE a><a/>", "<?xml version='1.0'?>\n<!---->\n<!DOCTYPE a SYSTEM 'b'>", "<a/><!DOCTYPE a>", "<a></a>\n<!DOCTYPE a>", "<a/><!----><?t?> <!DOCTYPE", "<!DOCTYPE a",
		// Whatever stands behind it.
		"<!DOCTYPE a>x", "<!DOCTYPE a></a>", "<!DOCTYPE <p:a/>", "<!DOCTYPE a><!DOCTYPE a>",
	} {
		checkFault(t, "P11.1", s, api.ErrDTD)
	}
}

func TestNoSpaces(t *testing.T) {
	for _, s := range []string{
		// Prefixes that nothing declares.
		"<p:a/>", "<p:a></p:a>", "<a p:x=''/>", "<p:a xmlns:q='u'/>", "<p:a xmlns='u'/>", "<a xmlns='u' p:x=''/>", "<P:a xmlns:p='u'/>", "<a xmlns:p='u' P:x=''/>", "<XML:a/>", "<a Xml:x=''/>", "<xmlns:a/>", "<xmlns:xmlns/>", "<u:a xmlns:p='u'/>", "<é:a xmlns:e='u'/>",
		"<a><b xmlns:p='u'/><p:c/></a>", "<a><b xmlns:p='u'></b><c p:x=''/></a>", "<a><p:b><c xmlns:p='u'/></p:b></a>", "<a><b><c xmlns:p='u'/><p:d/></b></a>",
		// Declarations that may not be.
		"<a xmlns:p=''/>", "<a xmlns:p=''><b/></a>", "<a xmlns:p='u'><b xmlns:p=''/></a>", "<a xmlns:p=\"\"/>",
		"<a xmlns:xml=''/>", "<a xmlns:xml='u'/>", "<a xmlns:xml='" + spaceOfXML + " '/>", "<a xmlns:xml='" + spaceOfXML + "/'/>", "<a xmlns:xml='" + strings.ToUpper(spaceOfXML) + "'/>", "<a xmlns:xml='" + spaceOfXMLNS + "'/>",
		"<a xmlns:p='" + spaceOfXML + "'/>", "<a xmlns='" + spaceOfXML + "'/>", "<a xmlns:XML='" + spaceOfXML + "'/>", "<a xmlns:p='&#104;" + spaceOfXML[1:] + "'/>",
		"<a xmlns:xmlns='u'/>", "<a xmlns:xmlns='" + spaceOfXMLNS + "'/>", "<a xmlns:xmlns=''/>", "<a xmlns:xmlns='" + spaceOfXML + "'/>",
		"<a xmlns:p='" + spaceOfXMLNS + "'/>", "<a xmlns='" + spaceOfXMLNS + "'/>", "<a xmlns='&#x68;" + spaceOfXMLNS[1:] + "'/>",
		// Two attributes of one local name and space.
		"<a xmlns:p='u' xmlns:q='u' p:x='' q:x=''/>", "<a p:x='' q:x='' xmlns:p='u' xmlns:q='u'/>", "<a xmlns:p='u'><b xmlns:q='u' p:x='1' q:x='2'/></a>", "<a xmlns:p='u' xmlns:q='v'><b xmlns:q='u' p:x='' q:x=''/></a>", "<a xmlns:p='u' xmlns:q='&#117;' p:x='' y='' q:x=''/>", "<a xmlns:p='u v' xmlns:q='u\nv' p:x='' q:x=''/>",
		// An element's own name is looked up too, and at an empty one's end.
		"<a><p:b x=''/></a>", "<a xmlns='u'><p:b></p:b></a>",
	} {
		checkFault(t, "P11.1", s, api.ErrSpace)
	}
}

func TestTwoOfOneName(t *testing.T) {
	for _, s := range []string{
		"<a x='1' x='2'/>", "<a x='1' x='1'/>", "<a x='' y='' x=''>", "<a xmlns='u' xmlns='u'/>", "<a xmlns='' xmlns='u'/>", "<a xmlns:p='u' xmlns:p='v'/>", "<a xmlns:p='u' p:x='1' p:x='2'/>", "<a xml:x='' xml:x=''/>", "<a><b x='' x=''/></a>", "<a é='' é=''/>",
	} {
		checkFault(t, "P11.1", s, api.ErrForm)
	}
	for _, s := range []string{"<a x='' X=''/>", "<a x='' xmlns:x='u'/>", "<a xmlns='u' xmlns:xmlnsx='v'/>", "<a xmlns:p='u' x='' p:x=''/>", "<a xmlns:p='u' p='' p:p='' xmlns:x='v' x=''/>", "<a x=''><b x=''/></a>", "<a é='' e\u0301=''/>"} {
		checkOK(t, "P11.1", s)
	}
}

func TestNoCharacters(t *testing.T) {
	for _, s := range []string{
		"\x00", "\xFF", "<a>\xFF</a>", "<a>\x01</a>", "<a>\x0B</a>", "<a x='\x1F'/>", "<!--\x00--><a/>", "<a/>\x00", "<a>\xED\xA0\x80</a>", "<a>\xEF\xBF\xBE</a>", "<a>\xEF\xBF\xBF</a>", "<a>\xF4\x90\x80\x80</a>", "<a>\xC0\x80</a>", "<a>\xC3</a>", "\xFF\xFE<\x00a\x00",
		// Ahead of any other fault, wherever they stand.
		"<!DOCTYPE a>\x00", "x\x00", "<p:a/>\x00", "</a>\xFF", strings.Repeat("<a>", 33) + "\x00", "<a x='' x=''/>\xC3", "\xC3" + strings.Repeat(" ", 65535),
	} {
		checkFault(t, "P11.1", s, api.ErrChar)
	}
}

// filled is an element a with so many bytes in all.
func filled(size int) string {
	return "<a>" + strings.Repeat("x", size-len("<a></a>")) + "</a>"
}

func TestTooLong(t *testing.T) {
	for size := 65530; size <= 65536; size++ {
		checkTree(t, "P11.1", filled(size), []api.Node{elem(-1, "a", 1), leaf(api.Chars, 0, strings.Repeat("x", size-7))})
	}
	checkOK(t, "P11.1", strings.Repeat(" ", 65532)+"<a/>")
	checkOK(t, "P11.1", "<a/>"+strings.Repeat("\n", 65532))
	checkOK(t, "P11.1", "<a"+strings.Repeat(" ", 65532)+"/>")
	checkTree(t, "P11.1", "<a>"+strings.Repeat("\r\n", 32764)+"</a>", []api.Node{elem(-1, "a", 1), leaf(api.Chars, 0, strings.Repeat("\n", 32764))})
	for _, s := range []string{
		filled(65537), filled(65538), filled(1 << 20), "<a/>" + strings.Repeat(" ", 65533), strings.Repeat(" ", 65537), strings.Repeat("\xFF", 65537), strings.Repeat("\x00", 1<<20), "<!DOCTYPE" + strings.Repeat(" ", 65537), strings.Repeat("<a>", 30000),
		// The line ends that are read as one count as they came.
		"<a>" + strings.Repeat("\r\n", 32765) + "</a>",
		"<a/>" + strings.Repeat("\r\n", 32766) + "\xFF",
	} {
		checkFault(t, "P11.1", s, api.ErrLong)
	}
}

// numbered are so many texts, each with its number from 0 on in place of #.
func numbered(count int, text string) string {
	var b strings.Builder
	for i := range count {
		b.WriteString(strings.ReplaceAll(text, "#", "n"+string([]byte{byte('a' + i/26), byte('a' + i%26)})))
	}
	return b.String()
}

func TestTooManyAttributes(t *testing.T) {
	for n := range 33 {
		checkOK(t, "P11.1", "<a"+numbered(n, " #=''")+"/>")
		checkOK(t, "P11.1", "<a"+numbered(n, " xmlns:#='u'")+"/>")
		checkOK(t, "P11.1", "<a"+numbered(n, " #=''")+numbered(32-n, " xmlns:#='u'")+"></a>")
	}
	checkOK(t, "P11.1", "<a"+numbered(16, " xmlns:#='#' #:x=''")+"/>")
	checkOK(t, "P11.1", "<a"+numbered(32, " #=''")+"><b"+numbered(32, " #=''")+"/></a>")
	for _, s := range []string{
		"<a" + numbered(33, " #=''") + "/>", "<a" + numbered(33, " xmlns:#='u'") + "/>", "<a" + numbered(33, " xmlns:#='u'") + ">", "<a" + numbered(34, " #=''") + ">", "<a" + numbered(600, " #=''") + "/>", "<a" + numbered(1, " #=''") + numbered(32, " xmlns:#='u'") + "/>", "<a" + numbered(32, " #=''") + " xmlns='u'/>", "<a" + numbered(32, " xmlns:#='u'") + " na=''></a>", "<a><b" + numbered(33, " #=''") + "/></a>",
		// Ahead of what else is looked at when a start is read, and ahead of what stands behind it.
		"<a" + strings.Repeat(" x=''", 33) + "/>", "<p:a" + strings.Repeat(" p:x=''", 33) + "/>", "<a" + numbered(33, " xmlns:#=''") + "/>", "<a" + numbered(33, " p:#=''") + ">&b;", "<a" + strings.Repeat(" xmlns:xmlns='u'", 10000/4) + "/>", strings.Repeat("<a>", 32) + "<a" + numbered(33, " #=''") + ">", "<a" + numbered(33, " #=''") + "><!DOCTYPE",
	} {
		checkFault(t, "P11.1", s, api.ErrMany)
	}
	// A start that is never read whole.
	for _, s := range []string{"<a" + numbered(33, " #=''"), "<a" + numbered(33, " #=''") + "/", "<a" + numbered(33, " #=''") + "/ >", "<a" + numbered(33, " #=''") + " x='<'>", "<a" + numbered(34, "#=''") + ">", "<a" + numbered(40, " #=''") + "x=''>"} {
		checkFault(t, "P11.1", s, api.ErrForm)
	}
}

// nested are so many elements within one another.
func nested(deep int, inner string) string {
	return strings.Repeat("<a>", deep) + inner + strings.Repeat("</a>", deep)
}

func TestTooDeep(t *testing.T) {
	for deep := 1; deep <= 32; deep++ {
		d, err := Parse([]byte(nested(deep, "")))
		if err != api.OK || len(d.Nodes) != deep || d.Nodes[deep-1].Parent != deep-2 {
			t.Errorf("P11.1: %d elements within one another: %d, %d nodes", deep, err, len(d.Nodes))
		}
	}
	for _, s := range []string{nested(31, "<b/>"), nested(31, "<b></b><b></b><b/>"), nested(32, "t<!--c--><?t?><![CDATA[x]]>"), nested(1, strings.Repeat("<b/>", 100)), nested(1, strings.Repeat(nested(31, ""), 100))} {
		checkOK(t, "P11.1", s)
	}
	for _, s := range []string{
		nested(33, ""), nested(32, "<b/>"), nested(32, "<b></b>"), nested(32, "<b>"), nested(32, "t<b/>"), nested(1, nested(31, "")+nested(32, "")), nested(100, ""), strings.Repeat("<a>", 33), strings.Repeat("<a>", 32) + "<a/>", strings.Repeat("<a>", 20000),
		// Ahead of what stands behind it.
		nested(32, "<b>&c;</b>"), strings.Repeat("<a>", 33) + "</b>", strings.Repeat("<a>", 33) + "<p:b/>",
	} {
		checkFault(t, "P11.1", s, api.ErrDepth)
	}
	// A start that is never read whole, or has another fault.
	for _, s := range []string{strings.Repeat("<a>", 32) + "<a", strings.Repeat("<a>", 32) + "<a x>", strings.Repeat("<a>", 32) + "<a/ >", nested(32, "<b x='' x=''/>"), nested(32, "<b x='' p:x='' x=''>"), nested(32, "&b;<b/>"), nested(32, "</b><b/>")} {
		checkFault(t, "P11.1", s, api.ErrForm)
	}
	for _, s := range []string{nested(32, "<p:b/>"), nested(32, "<b p:x=''/>"), nested(32, "<b xmlns:p=''/>"), nested(31, "<p:b>") + "<c/>"} {
		checkFault(t, "P11.1", s, api.ErrSpace)
	}
}

func TestTooManyNodes(t *testing.T) {
	some := strings.Repeat("<b/>", 4094) // with what stands around them 4095 nodes
	for _, s := range []string{
		"<b/>", "<b></b>", "t", " ", "&lt;", "<![CDATA[x]]>", "<!---->", "<?t?>",
		// Text next to text is one node, and without bytes it is none.
		"1&#50;<![CDATA[3]]>4", "<![CDATA[]]>", "<![CDATA[]]><b/>", "<b/><![CDATA[]]>", "<![CDATA[]]><![CDATA[]]><!---->", "<?t?><![CDATA[]]>",
	} {
		checkOK(t, "P11.1", "<a>"+some+s+"</a>")
		checkOK(t, "P11.1", "<a>"+s+some+"</a>")
		checkOK(t, "P11.1", "<!--o--><?o?> <a>"+some+s+"</a><!--o--><?o?> ")
		checkFault(t, "P11.1", "<a>"+some+s+"</b>", api.ErrForm)
	}
	d, err := Parse([]byte("<a>" + some + "t</a>"))
	if err != api.OK || len(d.Nodes) != 4096 || len(d.Nodes[0].Kids) != 4095 || d.Nodes[4095].Value != "t" {
		t.Errorf("P11.1: 4096 nodes: %d, %d", err, len(d.Nodes))
	}
	for _, s := range []string{
		"<b/><b/>", "t<b/>", "<b/>t", "1<b/>2", "<!----><!---->", "<?t?><?t?>", "<b>t</b>", "<b><c/></b>", "1<!---->", "<!---->1", "<?t?>&lt;", "<b/><![CDATA[x]]>", "<![CDATA[x]]><b></b>", strings.Repeat("<b/>", 3000),
		// Ahead of what stands behind it.
		"<b/><b></c>", "<b/><b/>&c;", "<b/><!----></b>", "<b/><?t?><p:b/>", "<b/>t</b>", "<b/>t<p:b/>", "<b/>t<!-->",
	} {
		checkFault(t, "P11.1", "<a>"+some+s+"</a>", api.ErrMany)
	}
	// What stands ahead of it, and a node that is never read whole.
	for _, s := range []string{"<b/>&c;", "<b/>]]>", "<b/><b", "<b/><b x=''x=''/>", "<b/><b x='' x=''/>", "<b/><!-- -- -->", "<b/><?xml?>", "<b/><![CDATA[x", "<b/></b>", "</b><b/>"} {
		checkFault(t, "P11.1", "<a>"+some+s, api.ErrForm)
	}
	checkFault(t, "P11.1", "<a>"+some+"<b/><p:b/></a>", api.ErrSpace)
	deep := strings.Repeat("<a>", 32)
	checkFault(t, "P11.1", deep+strings.Repeat("<!---->", 4096-32)+"<b/>", api.ErrDepth)
	checkFault(t, "P11.1", deep+strings.Repeat("<!---->", 4096-32)+"<!---->", api.ErrMany)
	// What stands outside is in no tree, and isn't counted.
	checkOK(t, "P11.1", strings.Repeat("<!---->", 5000)+"<a/>"+strings.Repeat("<?t?>", 5000))
}

func TestFirstFaultCounts(t *testing.T) {
	form, dtd, many, space := api.ErrForm, api.ErrDTD, api.ErrMany, api.ErrSpace
	for _, c := range []struct {
		s    string
		want api.Errno
	}{
		{"<p:a>&b;</p:a>", space}, {"<a>&b;<p:b/></a>", form}, {"<p:a/><!DOCTYPE a>", space}, {"<!DOCTYPE a><p:a/>", dtd}, {"<p:a/><b/>", space}, {"<a/>x<!DOCTYPE a>", form}, {"<a></b><!DOCTYPE a>", form},
		{"<p:a></b>", space}, {"<p:a", form}, {"<p:a /", form}, {"<p:a x>", form}, {"<p:a x=''/ >", form}, {"<a xmlns:p=''", form}, {"<a xmlns:p='' y>", form}, {"<a xmlns:p='' y='&b;'>", form},
		// When a start is read: how many attributes, their names, their spaces, how deep.
		{"<p:a x='' x=''/>", form}, {"<a x='' p:x='' x=''/>", form}, {"<a xmlns:p='' xmlns:p=''/>", form}, {"<a xmlns:xmlns='' x='' x=''/>", form}, {"<a xmlns:p='u' xmlns:q='u' p:x='' q:x='' p:x=''/>", form},
		{"<a x='' x=''></b>", form}, {"<a" + strings.Repeat(" x=''", 33) + "/>", many}, {"<a" + strings.Repeat(" x=''", 32) + "/>", form}, {"<a" + numbered(32, " p:#=''") + "/>", space}, {"<a" + numbered(33, " p:#=''") + "/>", many},
		{"<a><p:b><c x='' x=''/></p:b></a>", space}, {"<a><b x='' x=''><p:c/></b></a>", form},
	} {
		checkFault(t, "P11.1", c.s, c.want)
	}
}
