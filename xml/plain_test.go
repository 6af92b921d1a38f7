package xml

import (
	"bytes"
	encoding "encoding/xml"
	"io"
	"math/rand"
	"regexp"
	"strconv"
	"strings"
	"testing"
	"unicode/utf8"

	"lanyard/api"
	"lanyard/chars"
)

// The chapter's forms as regular expressions, behind layer 1's Lines. How many bytes a name has, and which numbers are characters', is looked at behind them.
const (
	letterForm = `A-Z_a-z\x{C0}-\x{D6}\x{D8}-\x{F6}\x{F8}-\x{2FF}\x{370}-\x{37D}\x{37F}-\x{1FFF}\x{200C}\x{200D}\x{2070}-\x{218F}\x{2C00}-\x{2FEF}\x{3001}-\x{D7FF}\x{F900}-\x{FDCF}\x{FDF0}-\x{FFFD}\x{10000}-\x{EFFFF}`
	nameForm   = `[` + letterForm + `][` + letterForm + `0-9.\x{B7}\x{300}-\x{36F}\x{203F}\x{2040}-]*`
	fullForm   = nameForm + `(?::` + nameForm + `)?`
	refForm    = `&(?:amp|lt|gt|quot|apos|#[0-9]{1,8}|#x[0-9A-Fa-f]{1,8});`
	valueForm  = `'(?:[^<&']|` + refForm + `)*'|"(?:[^<&"]|` + refForm + `)*"`
	equalsForm = `[ \t\n]*=[ \t\n]*`
	attrForm   = `[ \t\n]+(` + fullForm + `)` + equalsForm + `(` + valueForm + `)`
)

var (
	declared  = regexp.MustCompile(`^<\?xml[ \t\n]`)
	declares  = regexp.MustCompile(`^<\?xml[ \t\n]+version` + equalsForm + `(?:'1\.0'|"1\.0")(?:[ \t\n]+encoding` + equalsForm + `(?:'[Uu][Tt][Ff]-8'|"[Uu][Tt][Ff]-8"))?(?:[ \t\n]+standalone` + equalsForm + `(?:'yes'|"yes"|'no'|"no"))?[ \t\n]*\?>`)
	commented = regexp.MustCompile(`^<!--((?:[^-]|-[^-])*)-->`)
	told      = regexp.MustCompile(`^<\?(` + nameForm + `)(?:[ \t\n]+(?s:(.*?)))?\?>`)
	section   = regexp.MustCompile(`^<!\[CDATA\[(?s:(.*?))\]\]>`)
	started   = regexp.MustCompile(`^<(` + fullForm + `)((?:` + attrForm + `)*)[ \t\n]*(/?)>`)
	attrs     = regexp.MustCompile(attrForm)
	ended     = regexp.MustCompile(`^</(` + fullForm + `)[ \t\n]*>`)
	refs      = regexp.MustCompile(refForm)
	someRef   = regexp.MustCompile(`^` + refForm)
	someText  = regexp.MustCompile(`^[^<&]+`)
	someBlank = regexp.MustCompile(`^[ \t\n]+`)
)

// plain is a second reading, by those.
type plain struct {
	left  string
	nodes []api.Node
	open  []int
	bad   api.Errno
}

// take is what a form tells of what is next, which it takes; nil if that isn't so.
func (p *plain) take(form *regexp.Regexp) []string {
	m := form.FindStringSubmatch(p.left)
	if m != nil {
		p.left = p.left[len(m[0]):]
	}
	return m
}

// fault keeps the first one.
func (p *plain) fault(err api.Errno, is bool) {
	if is && p.bad == api.OK {
		p.bad = err
	}
}

// expand is a value with what its references stand for.
func (p *plain) expand(s string) string {
	return refs.ReplaceAllStringFunc(s, func(ref string) string {
		if !strings.HasPrefix(ref, "&#") {
			return map[string]string{"&amp;": "&", "&lt;": "<", "&gt;": ">", "&quot;": `"`, "&apos;": "'"}[ref]
		}
		digits, base := strings.Trim(ref, "&#;"), 10
		if digits[0] == 'x' {
			digits, base = digits[1:], 16
		}
		n, _ := strconv.ParseInt(digits, base, 64)
		none := n < 32 && n != 9 && n != 10 && n != 13 || 0xD800 <= n && n < 0xE000 || n == 0xFFFE || n == 0xFFFF || n > 0x10FFFF
		p.fault(api.ErrForm, none)
		return string(utf8.AppendRune(nil, rune(n)))
	})
}

// halves are a name's prefix and local name.
func (p *plain) halves(full string) (prefix, local string) {
	both := strings.Split(full, ":")
	for _, half := range both {
		p.fault(api.ErrForm, len(half) > 256)
	}
	if len(both) == 1 {
		return "", full
	}
	return both[0], both[1]
}

func (p *plain) add(n api.Node) {
	p.fault(api.ErrMany, len(p.nodes) == 4096)
	n.Parent = -1
	if len(p.open) > 0 {
		n.Parent = p.open[len(p.open)-1]
		p.nodes[n.Parent].Kids = append(p.nodes[n.Parent].Kids, len(p.nodes))
	}
	p.nodes = append(p.nodes, n)
}

// space is a prefix's, within the open elements and one with these declarations.
func (p *plain) space(prefix string, decls []api.Decl) string {
	scope := map[string]string{"xml": spaceOfXML}
	for _, i := range p.open {
		for _, d := range p.nodes[i].Decls {
			scope[d.Prefix] = d.URI
		}
	}
	for _, d := range decls {
		scope[d.Prefix] = d.URI
	}
	uri, ok := scope[prefix]
	p.fault(api.ErrSpace, !ok && prefix != "")
	return uri
}

// element is that of a start's form.
func (p *plain) element(m []string) {
	n := api.Node{Kind: api.Elem}
	n.Prefix, n.Local = p.halves(m[1])
	seen, twice := map[string]bool{}, false
	for _, a := range attrs.FindAllStringSubmatch(m[2], -1) {
		twice = twice || seen[a[1]]
		seen[a[1]] = true
		prefix, local := p.halves(a[1])
		value := p.expand(strings.NewReplacer("\t", " ", "\n", " ").Replace(a[2][1 : len(a[2])-1]))
		switch {
		case a[1] == "xmlns":
			n.Decls = append(n.Decls, api.Decl{URI: value})
		case prefix == "xmlns":
			n.Decls = append(n.Decls, api.Decl{Prefix: local, URI: value})
		default:
			n.Attrs = append(n.Attrs, api.Attr{Prefix: prefix, Local: local, Value: value})
		}
	}
	p.fault(api.ErrMany, len(n.Attrs)+len(n.Decls) > 32)
	p.fault(api.ErrForm, twice)
	for _, d := range n.Decls {
		wrong := d.Prefix == "xmlns" || d.URI == spaceOfXMLNS || (d.Prefix == "xml") != (d.URI == spaceOfXML) || d.Prefix != "" && d.URI == ""
		p.fault(api.ErrSpace, wrong)
	}
	n.Space = p.space(n.Prefix, n.Decls)
	within := map[[2]string]bool{}
	for i, a := range n.Attrs {
		if a.Prefix != "" {
			n.Attrs[i].Space = p.space(a.Prefix, n.Decls)
			key := [2]string{n.Attrs[i].Space, a.Local}
			p.fault(api.ErrSpace, within[key])
			within[key] = true
		}
	}
	p.fault(api.ErrDepth, len(p.open) == 32)
	i := len(p.nodes)
	p.add(n)
	if m[len(m)-1] == "" {
		p.open = append(p.open, i)
	}
}

// inside takes the next piece of what is in an element. Text is gathered ahead of it.
func (p *plain) inside() {
	text := ""
	for {
		if m := p.take(section); m != nil {
			text += m[1]
		} else if m := p.take(someRef); m != nil {
			text += p.expand(m[0])
		} else if m := p.take(someText); m != nil {
			p.fault(api.ErrForm, strings.Contains(m[0], "]]>"))
			text += m[0]
		} else {
			break
		}
	}
	// A section that doesn't end, and a reference that is none, are faults within the text.
	p.fault(api.ErrForm, strings.HasPrefix(p.left, "&") || strings.HasPrefix(p.left, "<![CDATA["))
	if text != "" {
		p.add(api.Node{Kind: api.Chars, Value: text})
	}
	if m := p.take(commented); m != nil {
		p.add(api.Node{Kind: api.Comment, Value: m[1]})
	} else if m := p.instruction(); m != nil {
		p.add(api.Node{Kind: api.Proc, Local: m[1], Value: m[2]})
	} else if m := p.take(ended); m != nil {
		n := p.nodes[p.open[len(p.open)-1]]
		prefix, local := p.halves(m[1])
		p.fault(api.ErrForm, prefix != n.Prefix || local != n.Local)
		p.open = p.open[:len(p.open)-1]
	} else if m := p.take(started); m != nil {
		p.element(m)
	} else {
		p.fault(api.ErrForm, true)
	}
}

func (p *plain) instruction() []string {
	m := p.take(told)
	p.fault(api.ErrForm, m != nil && (strings.EqualFold(m[1], "xml") || len(m[1]) > 256))
	return m
}

func (p *plain) outside() {
	for p.bad == api.OK && (p.take(someBlank) != nil || p.take(commented) != nil || p.instruction() != nil) {
	}
	p.fault(api.ErrDTD, strings.HasPrefix(p.left, "<!DOCTYPE"))
}

// plainly is what Parse must answer.
func plainly(s string) ([]api.Node, api.Errno) {
	if len(s) > 65536 {
		return nil, api.ErrLong
	}
	if chars.Bad([]byte(s)) >= 0 {
		return nil, api.ErrChar
	}
	p := plain{left: strings.ReplaceAll(strings.ReplaceAll(s, "\r\n", "\n"), "\r", "\n")}
	if declared.MatchString(p.left) {
		p.fault(api.ErrForm, p.take(declares) == nil)
	}
	p.outside()
	if m := p.take(started); m != nil {
		p.element(m)
	} else {
		p.fault(api.ErrForm, true)
	}
	for p.bad == api.OK && len(p.open) > 0 {
		p.inside()
	}
	p.outside()
	p.fault(api.ErrForm, p.left != "")
	if p.bad != api.OK {
		return nil, p.bad
	}
	return p.nodes, api.OK
}

// checkPlainly holds Parse against the second reading, and answers its error.
func checkPlainly(t *testing.T, s string) api.Errno {
	t.Helper()
	d, err := Parse([]byte(s))
	want, wantErr := plainly(s)
	if err != wantErr || !sameNodes(d.Nodes, want) {
		t.Fatalf("P11.1: Parse(%q): %d, %+v; wanted %d, %+v", s, err, d.Nodes, wantErr, want)
	}
	return err
}

// maker makes texts that are nearly documents: of a piece that is no document's there is one in so many.
type maker struct {
	*rand.Rand
	rare int
}

// one is one of those that are right, or now and then one of those that are wrong.
func (m maker) one(right []string, wrong ...string) string {
	if len(wrong) > 0 && m.Intn(m.rare) == 0 {
		return wrong[m.Intn(len(wrong))]
	}
	return right[m.Intn(len(right))]
}

func list(of ...string) []string { return of }

func (m maker) attr() string {
	blanks := m.one(list(" ", " ", "\n", "\t ", "\r\n"), "", "\u00A0", "/", ",")
	called := m.one(list("x", "y", "z", "é", "p:x", "q:x", "r:y", "p:z", "xml:x", "xmlns:p", "xmlns:q", "xmlns:r", "xmlns"), "xmlns:xmlns", "xmlns:xml", "x:y:z", "1", ":x", "s:x", "xmlns:")
	value := m.one(list("'u'", `"u"`, "'v'", "'&#117;'", "'w'", "' u'"), "''", "'"+spaceOfXML+"'", "'"+spaceOfXMLNS+"'", "'<'", "'&b;'", "'&#0;'", "u", "'u\"", "'u'u'")
	if !strings.HasPrefix(called, "xmlns") {
		value = m.one(list("''", "'1'", `"a'b"`, "'&amp;&lt;'", "'\t&#9;\n&#10;\r&#xD;'", "'>'", "'&#x1F600;'", "']]>'"), "'<'", "'&b;'", "'&#0;'", "'&#xD800;'", "v", "'v\"", "'&#000000001;'")
	}
	return blanks + called + m.one(list("=", "=", " = ", "\n=", "=\r\n"), "", "==", ":") + value
}

func (m maker) element(deep int) string {
	called := m.one(list("a", "a", "b", "é", "xml:a"), "p:a", "q:b", "s:a", "1", "a:b:c", "xmlns:a", "A")
	s := "<" + called
	if deep == 5 {
		s += " xmlns:p='u' xmlns:q='u' xmlns:r='v'"
	}
	for range m.Intn(4) {
		s += m.attr()
	}
	s += m.one(list("", "", " ", "\n"), "/ ", "x", "=")
	if deep == 0 || m.Intn(4) == 0 {
		return s + m.one(list("/>"), "/", ">", "/ >")
	}
	s += m.one(list(">"), ">>", "", "<")
	for range m.Intn(5) {
		s += m.piece(deep - 1)
	}
	return s + m.one(list("</"), "<", "</ ", "") + called + m.one(list("", "", " ", "\r\n"), "x", "/", " x=''") + m.one(list(">"), "", "/>")
}

func (m maker) piece(deep int) string {
	switch m.Intn(5) {
	case 0, 1:
		return m.element(deep)
	case 2:
		return m.one(list("t", " ", "\r\n", "\r", "]]", ">", "&amp;", "&#65;", "&#x1F600;", "&lt;b&gt;", "é", "&#13;", "\U0010FFFF"), "]]>", "&", "&b;", "&#0;", "&#xFFFE;", "&amp", "&#XA;", "<", "<!DOCTYPE a>", "\x00", "\xFF")
	case 3:
		return "<![CDATA[" + m.one(list("", "", "x", "<b>", "&amp;", "]]", "]", ">", "\r\n")) + m.one(list("]]>"), "]]", "]>", "")
	}
	return m.aside()
}

func (m maker) aside() string {
	switch m.Intn(3) {
	case 0:
		return m.one(list("<!--"), "<!-", "<!", "<!--") + m.one(list("", " c ", "a-b", "<&>", "-a", ">", "\r\n"), "--", "a--b", "a-", "-") + m.one(list("-->"), "--", "->", "")
	case 1:
		return "<?" + m.one(list("t", "u", "xml-x", "é"), "xml", "XML", "p:t", "1", "") + m.one(list("", " ", "  d e ", " ?", "\r\nz"), "?", "=", ">") + m.one(list("?>"), ">", "?", "")
	}
	return m.one(list(" ", "\n", "\r\n\t", ""), "x", "&#32;", "<!DOCTYPE a>", "\uFEFF")
}

func (m maker) document() string {
	s := ""
	if m.Intn(2) == 0 {
		s = m.one(list("<?xml"), "<?XML", " <?xml", "<?xml-") + m.one(list(" ", "\n", "\r"), "") + m.one(list("version='1.0'", `version = "1.0"`), "version='1.1'", "", "version") + m.one(list("", " encoding='UTF-8'", "\tencoding=\"utf-8\""), "encoding='utf-8'", " encoding='latin1'") + m.one(list("", " standalone='yes'", " standalone = \"no\""), " standalone='maybe'", " standalone='no'x") + m.one(list("", " ", "\n"), "?") + m.one(list("?>"), ">", "")
	}
	for range m.Intn(3) {
		s += m.aside()
	}
	s += m.element(5)
	for range m.Intn(3) {
		s += m.aside()
	}
	return s
}

// turned is a text with one byte or so changed, left out, or put in, or with a piece twice or elsewhere.
func (m maker) turned(s string) string {
	at := m.Intn(len(s) + 1)
	end := at + m.Intn(min(len(s)-at, 8)+1)
	switch m.Intn(4) {
	case 0:
		return s[:at] + m.one(list("<", ">", "&", ";", "'", `"`, "-", "?", "!", "]", "[", "=", " ", ":", "/", "x", "#", "\r", "\n", "é", "--", "]]>", "<!--", "-->", "<?", "?>", "<![CDATA[", "<!DOCTYPE", "</a>", "<b>", "&#65;")) + s[at+m.Intn(2)*(end-at):]
	case 1:
		return s[:at] + s[end:]
	case 2:
		return s[:end] + s[at:]
	}
	to := m.Intn(len(s) + 1)
	return s[:to] + s[at:end] + s[to:]
}

func TestNearlyDocuments(t *testing.T) {
	m := maker{rand.New(rand.NewSource(1)), 60}
	seen := map[api.Errno]int{}
	for i := range 60000 {
		m.rare = 40 << (i % 5)
		s := m.document()
		if i%3 == 0 {
			s = m.turned(s)
		}
		seen[checkPlainly(t, s)]++
	}
	for _, err := range []api.Errno{api.OK, api.ErrForm, api.ErrSpace, api.ErrDTD, api.ErrChar} {
		if seen[err] < 30 {
			t.Errorf("only %d texts with %d", seen[err], err)
		}
	}
}

func TestEachByteTurned(t *testing.T) {
	s := "<?xml version='1.0' encoding=\"utf-8\"?><!--o--><p:a xmlns:p='u' x='1&#9;2' p:x=\"&lt;\"><b>t&amp;<![CDATA[<b>]]>&#x43;</b ><!-- c --><?t d?><c/></p:a>\n<?z?>"
	for i := range len(s) {
		for c := range 256 {
			checkPlainly(t, s[:i]+string([]byte{byte(c)})+s[i+1:])
			checkPlainly(t, s[:i]+string([]byte{byte(c)})+s[i:])
		}
		checkPlainly(t, s[:i])
		checkPlainly(t, s[i:])
		checkPlainly(t, s[:i]+s[i+1:])
		checkPlainly(t, s[:i]+s[i:]+s[i:])
	}
}

func TestAllShortTexts(t *testing.T) {
	pieces := list("<", ">", "/", "a", "x", "=", "'", " ", "&", ";", "!", "-", "?")
	var try func(s string, left int)
	try = func(s string, left int) {
		checkPlainly(t, s)
		checkPlainly(t, "<a>"+s+"</a>")
		if left > 0 {
			for _, p := range pieces {
				try(s+p, left-1)
			}
		}
	}
	try("", 4)
	// Starts of elements.
	pieces = list(" ", "x", "='1'", "=", "xmlns", ":", "/", ">", "p", "\n")
	try = func(s string, left int) {
		checkPlainly(t, "<a"+s)
		checkPlainly(t, "<a"+s+"/>")
		if left > 0 {
			for _, p := range pieces {
				try(s+p, left-1)
			}
		}
	}
	try("", 4)
}

func TestNearlyTooMuch(t *testing.T) {
	m := maker{rand.New(rand.NewSource(2)), 200}
	seen := map[api.Errno]int{}
	for i := range 600 {
		var s string
		switch i % 3 {
		case 0: // nodes
			s = "<a>" + strings.Repeat("<b/>", 4090) + strings.Repeat("<!---->", m.Intn(5)) + m.piece(1) + m.piece(0) + m.piece(0) + m.piece(1) + "</a>"
		case 1: // depth
			s = nested(28+m.Intn(5), m.element(5)+m.piece(5))
		default: // attributes
			s = "<a" + numbered(30+m.Intn(2), " #=''") + m.attr() + m.attr() + "/>"
		}
		seen[checkPlainly(t, s)]++
	}
	for _, err := range []api.Errno{api.OK, api.ErrForm, api.ErrMany, api.ErrDepth} {
		if seen[err] < 20 {
			t.Errorf("only %d texts with %d", seen[err], err)
		}
	}
}

// library is the tree by Go's library, names' spaces told by it; of texts and values the blanks are one. It is handed the text behind Lines, for it leaves line ends within comments and instructions as they are.
func library(s string) ([]api.Node, error) {
	s = chars.Lines(s)
	spaced, raw := encoding.NewDecoder(strings.NewReader(s)), encoding.NewDecoder(strings.NewReader(s))
	var nodes []api.Node
	top := -1
	add := func(n api.Node) {
		n.Parent = top
		if top >= 0 {
			nodes[top].Kids = append(nodes[top].Kids, len(nodes))
		}
		nodes = append(nodes, n)
	}
	for {
		tok, err := spaced.Token()
		if err == io.EOF {
			return nodes, nil
		}
		if err != nil {
			return nil, err
		}
		told, _ := raw.RawToken()
		if _, ends := tok.(encoding.EndElement); ends {
			top = nodes[top].Parent
			continue
		}
		if e, starts := tok.(encoding.StartElement); starts {
			r := told.(encoding.StartElement)
			n := api.Node{Kind: api.Elem, Prefix: r.Name.Space, Local: r.Name.Local, Space: e.Name.Space}
			for i, a := range r.Attr {
				switch {
				case a.Name.Space == "xmlns":
					n.Decls = append(n.Decls, api.Decl{Prefix: a.Name.Local, URI: a.Value})
				case a.Name == encoding.Name{Local: "xmlns"}:
					n.Decls = append(n.Decls, api.Decl{URI: a.Value})
				default:
					n.Attrs = append(n.Attrs, api.Attr{Prefix: a.Name.Space, Local: a.Name.Local, Space: e.Attr[i].Name.Space, Value: chars.Flat(a.Value)})
				}
			}
			add(n)
			top = len(nodes) - 1
			continue
		}
		if top < 0 {
			continue
		}
		switch x := tok.(type) {
		case encoding.CharData:
			if len(nodes) > 0 && len(x) > 0 {
				if last := &nodes[len(nodes)-1]; last.Kind == api.Chars && last.Parent == top && nodes[top].Kids[len(nodes[top].Kids)-1] == len(nodes)-1 {
					last.Value += chars.Flat(string(x))
				} else {
					add(api.Node{Kind: api.Chars, Value: chars.Flat(string(x))})
				}
			}
		case encoding.Comment:
			add(api.Node{Kind: api.Comment, Value: string(x)})
		case encoding.ProcInst:
			add(api.Node{Kind: api.Proc, Local: x.Target, Value: string(bytes.Clone(x.Inst))})
		}
	}
}

func TestAsTheLibrary(t *testing.T) {
	m := maker{rand.New(rand.NewSource(3)), 2000}
	read := 0
	for range 20000 {
		s := m.document()
		d, err := Parse([]byte(s))
		if err != api.OK {
			continue
		}
		want, wrong := library(s)
		for i := range d.Nodes {
			n := &d.Nodes[i]
			if n.Kind == api.Chars {
				n.Value = chars.Flat(n.Value)
			}
			for j := range n.Attrs {
				n.Attrs[j].Value = chars.Flat(n.Attrs[j].Value)
			}
		}
		if wrong != nil || !sameNodes(d.Nodes, want) {
			t.Fatalf("P11.1: Parse(%q): %+v; the library: %v, %+v", s, d.Nodes, wrong, want)
		}
		read++
	}
	if read < 5000 {
		t.Errorf("only %d texts were read", read)
	}
}
