package xml

import (
	"strconv"
	"strings"
	"unicode/utf8"

	"lanyard/api"
	"lanyard/chars"
)

const (
	blankSigns = " \t\n\r"

	// nameEnds are what may stand behind a name, wherever one stands. What else can be in no name makes a word that is none.
	nameEnds = blankSigns + "=/>?"

	mostDigits = 8
)

// name is one as it is written, without a prefix or with one.
type name struct {
	prefix, local string
}

func (n name) text() string {
	if n.prefix == "" {
		return n.local
	}
	return n.prefix + ":" + n.local
}

// reader goes through a text, and breaks off at the first fault.
type reader struct {
	left string
}

// begins tells whether the text goes on so.
func (r *reader) begins(text string) bool {
	return strings.HasPrefix(r.left, text)
}

// has takes what is next, if it is this.
func (r *reader) has(text string) bool {
	if !r.begins(text) {
		return false
	}
	r.left = r.left[len(text):]
	return true
}

// sign takes what is next, which must be this.
func (r *reader) sign(text string) {
	need(r.has(text), api.ErrForm)
}

// blanks takes the blanks that are next, and tells whether there were any.
func (r *reader) blanks() bool {
	all := r.left
	r.left = strings.TrimLeft(all, blankSigns)
	return len(r.left) < len(all)
}

// ahead takes the characters that stand ahead of the first one that ends them, or all that are left.
func (r *reader) ahead(ends func(c rune) bool) string {
	at := strings.IndexFunc(r.left, ends)
	if at < 0 {
		at = len(r.left)
	}
	taken := r.left[:at]
	r.left = r.left[at:]
	return taken
}

// aheadOf takes the characters that stand ahead of the first of these signs, or all that are left.
func (r *reader) aheadOf(signs string) string {
	return r.ahead(func(c rune) bool { return strings.ContainsRune(signs, c) })
}

// until takes all up to an end, and the end, and is what stands ahead of it.
func (r *reader) until(end string) string {
	text, left, found := strings.Cut(r.left, end)
	need(found, api.ErrForm)
	r.left = left
	return text
}

// simpleName takes a name without a colon.
func (r *reader) simpleName() string {
	word := r.aheadOf(nameEnds)
	need(chars.Name(word), api.ErrForm)
	return word
}

// name takes one with a colon or without.
func (r *reader) name() name {
	first, second, two := strings.Cut(r.aheadOf(nameEnds), ":")
	if !two {
		need(chars.Name(first), api.ErrForm)
		return name{local: first}
	}
	need(chars.Name(first, second), api.ErrForm)
	return name{prefix: first, local: second}
}

// equals takes the sign between a name and its value, and the blanks around it.
func (r *reader) equals() {
	r.blanks()
	r.sign("=")
	r.blanks()
}

// mark takes the sign with which a value begins, and will end.
func (r *reader) mark() string {
	if r.has("'") {
		return "'"
	}
	r.sign(`"`)
	return `"`
}

// value takes an attribute's value, and the marks around it.
func (r *reader) value() string {
	var out strings.Builder
	mark := r.mark()
	for !r.has(mark) {
		if r.has("&") {
			out.WriteString(r.reference())
			continue
		}
		plain := r.aheadOf("<&" + mark)
		need(plain != "", api.ErrForm)
		out.WriteString(chars.Flat(plain))
	}
	return out.String()
}

// text takes characters, references and sections, as many as there are.
func (r *reader) text() string {
	var out strings.Builder
	for {
		switch {
		case r.has("<![CDATA["):
			out.WriteString(r.until("]]>"))
		case r.has("&"):
			out.WriteString(r.reference())
		case r.left == "" || r.begins("<"):
			return out.String()
		default:
			plain := r.aheadOf("<&")
			need(!strings.Contains(plain, "]]>"), api.ErrForm)
			out.WriteString(plain)
		}
	}
}

// reference takes one behind its &, and is what it stands for.
func (r *reader) reference() string {
	what := r.until(";")
	switch what {
	case "amp":
		return "&"
	case "lt":
		return "<"
	case "gt":
		return ">"
	case "quot":
		return `"`
	case "apos":
		return "'"
	}
	digits, numbered := strings.CutPrefix(what, "#")
	need(numbered, api.ErrForm)
	if sixteens, ok := strings.CutPrefix(digits, "x"); ok {
		return character(sixteens, 16)
	}
	return character(digits, 10)
}

// character is the text of the one whose number the digits say.
func character(digits string, base int) string {
	need(len(digits) <= mostDigits, api.ErrForm)
	number, err := strconv.ParseUint(digits, base, 32)
	need(err == nil, api.ErrForm)
	c := rune(number)
	// What is no code point would be written as another one, which is a character.
	need(utf8.ValidRune(c), api.ErrForm)
	text := string(c)
	need(chars.Bad([]byte(text)) < 0, api.ErrForm)
	return text
}

// comment takes what is left of one behind its <!--, and is what stands in it.
func (r *reader) comment() string {
	text := r.until("--")
	r.sign(">")
	return text
}

// instruction takes what is left of one behind its <?.
func (r *reader) instruction() (target, value string) {
	target = r.simpleName()
	need(!strings.EqualFold(target, "xml"), api.ErrForm)
	if r.has("?>") {
		return target, ""
	}
	need(r.blanks(), api.ErrForm)
	return target, r.until("?>")
}

// declaration takes that of a document, if it begins with one.
func (r *reader) declaration() {
	behind, begins := strings.CutPrefix(r.left, "<?xml")
	if !begins || strings.IndexAny(behind, blankSigns) != 0 {
		return
	}
	r.left = behind
	versioned := r.field("version", func(value string) bool { return value == "1.0" })
	need(versioned, api.ErrForm)
	r.field("encoding", func(value string) bool { return strings.EqualFold(value, "UTF-8") })
	r.field("standalone", func(value string) bool { return value == "yes" || value == "no" })
	r.blanks()
	r.sign("?>")
}

// field takes one of the declaration's, if it is next, and tells whether it was. Its value must be right.
func (r *reader) field(called string, right func(value string) bool) bool {
	all := r.left
	if !r.blanks() || !r.has(called) {
		r.left = all
		return false
	}
	r.equals()
	need(right(r.until(r.mark())), api.ErrForm)
	return true
}

// outside takes comments, instructions and blanks, as many as there are.
func (r *reader) outside() {
	for {
		switch {
		case r.blanks():
		case r.has("<!--"):
			r.comment()
		case r.has("<?"):
			r.instruction()
		default:
			need(!r.begins("<!DOCTYPE"), api.ErrDTD)
			return
		}
	}
}
