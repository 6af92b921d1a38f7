package xml

import (
	"lanyard/api"
)

const (
	xmlPrefix   = "xml"
	xmlSpace    = "http://www.w3.org/XML/1998/namespace"
	xmlnsPrefix = "xmlns"
	xmlnsSpace  = "http://www.w3.org/2000/xmlns/"
)

// element is the node of one that stands within the one that is open, its names' spaces looked up.
func (p *parser) element(self name, list []attribute) api.Node {
	n := api.Node{Kind: api.Elem, Prefix: self.prefix, Local: self.local, Decls: declarations(list)}
	space := func(prefix string) string {
		uri, declared := p.lookUp(prefix, n.Decls)
		need(declared || prefix == "", api.ErrSpace)
		return uri
	}
	n.Space = space(n.Prefix)
	for _, a := range list {
		if _, declares := a.declares(); declares {
			continue
		}
		attr := api.Attr{Prefix: a.name.prefix, Local: a.name.local, Value: a.value}
		if attr.Prefix != "" {
			attr.Space = space(attr.Prefix)
			need(!isThere(n.Attrs, attr), api.ErrSpace)
		}
		n.Attrs = append(n.Attrs, attr)
	}
	return n
}

// declarations are those of the list, all of which must be such as may be made.
func declarations(list []attribute) []api.Decl {
	var decls []api.Decl
	for _, a := range list {
		if prefix, declares := a.declares(); declares {
			d := api.Decl{Prefix: prefix, URI: a.value}
			need(mayDeclare(d), api.ErrSpace)
			decls = append(decls, d)
		}
	}
	return decls
}

// declares is the prefix of which an attribute is a declaration, if it is one.
func (a attribute) declares() (prefix string, is bool) {
	switch {
	case a.name == name{local: xmlnsPrefix}:
		return "", true
	case a.name.prefix == xmlnsPrefix:
		return a.name.local, true
	}
	return "", false
}

// mayDeclare tells whether a declaration may be made.
func mayDeclare(d api.Decl) bool {
	switch {
	case d.Prefix == xmlnsPrefix || d.URI == xmlnsSpace:
		return false
	case d.Prefix == xmlPrefix || d.URI == xmlSpace:
		return d.Prefix == xmlPrefix && d.URI == xmlSpace
	}
	return d.Prefix == "" || d.URI != ""
}

// lookUp is what the nearest declaration of a prefix says, from an element with these declarations on outwards, and whether there is one.
func (p *parser) lookUp(prefix string, decls []api.Decl) (uri string, declared bool) {
	if prefix == xmlPrefix {
		return xmlSpace, true
	}
	around := p.top
	for {
		for _, d := range decls {
			if d.Prefix == prefix {
				return d.URI, true
			}
		}
		if around == none {
			return "", false
		}
		decls, around = p.nodes[around].Decls, p.nodes[around].Parent
	}
}

// isThere tells whether one of the attributes has the local name and the space of this one.
func isThere(attrs []api.Attr, this api.Attr) bool {
	for _, a := range attrs {
		if a.Local == this.Local && a.Space == this.Space {
			return true
		}
	}
	return false
}
