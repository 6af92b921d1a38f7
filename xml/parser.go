package xml

import (
	"lanyard/api"
)

// none is the number of no node.
const none = -1

// parser makes a tree of what it reads.
type parser struct {
	reader
	nodes []api.Node

	// top is the innermost element that is open, deep how many are.
	top, deep int
}

// attribute is one as it is written: it may be a declaration.
type attribute struct {
	name  name
	value string
}

// document takes all of the text.
func (p *parser) document() {
	p.declaration()
	p.outside()
	p.sign("<")
	p.start()
	for p.deep > 0 {
		p.content()
	}
	p.outside()
	need(p.left == "", api.ErrForm)
}

// content takes the text that is next, and what stands behind it.
func (p *parser) content() {
	// There is no telling that a text has ended ahead of what stands behind it, so its node is made only there.
	if text := p.text(); text != "" {
		p.add(api.Node{Kind: api.Chars, Value: text})
	}
	switch {
	case p.has("</"):
		p.end()
	case p.has("<!--"):
		p.add(api.Node{Kind: api.Comment, Value: p.comment()})
	case p.has("<?"):
		target, value := p.instruction()
		p.add(api.Node{Kind: api.Proc, Local: target, Value: value})
	default:
		p.sign("<")
		p.start()
	}
}

// start takes what is left of an element's start behind its <, and makes its node.
func (p *parser) start() {
	self := p.name()
	list := p.attributes()
	empty := p.has("/")
	p.sign(">")
	need(len(list) <= api.MaxAttr, api.ErrMany)
	need(!anyTwice(list), api.ErrForm)
	n := p.element(self, list)
	need(p.deep < api.MaxDeep, api.ErrDepth)
	p.top = p.add(n)
	p.deep++
	if empty {
		p.leave()
	}
}

// end takes what is left of the end of the element that is open behind its </.
func (p *parser) end() {
	n := p.nodes[p.top]
	p.sign(name{n.Prefix, n.Local}.text())
	p.blanks()
	p.sign(">")
	p.leave()
}

// leave goes on behind the element that is open.
func (p *parser) leave() {
	p.top = p.nodes[p.top].Parent
	p.deep--
}

// add makes a node within the element that is open, and is its number.
func (p *parser) add(n api.Node) int {
	i := len(p.nodes)
	need(i < api.MaxNode, api.ErrMany)
	n.Parent = p.top
	if p.top != none {
		around := &p.nodes[p.top]
		around.Kids = append(around.Kids, i)
	}
	p.nodes = append(p.nodes, n)
	return i
}

// attributes takes those of a start, and blanks behind them.
func (p *parser) attributes() []attribute {
	var list []attribute
	for p.blanks() && !p.begins("/") && !p.begins(">") {
		a := attribute{name: p.name()}
		p.equals()
		a.value = p.value()
		list = append(list, a)
	}
	return list
}

// anyTwice tells whether two have one name.
func anyTwice(list []attribute) bool {
	for i, a := range list {
		for _, b := range list[:i] {
			if a.name == b.name {
				return true
			}
		}
	}
	return false
}
