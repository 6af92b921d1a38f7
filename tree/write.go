package tree

import (
	"strings"

	"lanyard/api"
	"lanyard/escape"
)

const declaring = "xmlns"

// Write is a tree's text. ErrArg.
func Write(d api.Doc) (string, api.Errno) {
	if !Right(d) {
		return "", api.ErrArg
	}
	var out strings.Builder
	enter := func(n api.Node) {
		switch n.Kind {
		case api.Elem:
			writeStart(&out, n)
		case api.Chars:
			out.WriteString(escape.Text(n.Value))
		case api.Comment:
			out.WriteString("<!--" + n.Value + "-->")
		case api.Proc:
			out.WriteString("<?" + instruction(n) + "?>")
		}
	}
	leave := func(n api.Node) {
		if n.Kind == api.Elem {
			out.WriteString("</" + name(n.Prefix, n.Local) + ">")
		}
	}
	walk(d, enter, leave)
	return out.String(), api.OK
}

// walk enters each node ahead of all that is within it, and leaves it behind that. It calls itself nowhere: a tree may be deeper than calls can be.
func walk(d api.Doc, enter, leave func(n api.Node)) {
	at := 0
	// Of each node: how many of its Kids were entered.
	entered := make([]int, len(d.Nodes))
	enter(d.Nodes[at])
	for at != nobody {
		n := d.Nodes[at]
		if next := entered[at]; next < len(n.Kids) {
			entered[at]++
			at = n.Kids[next]
			enter(d.Nodes[at])
		} else {
			leave(n)
			at = n.Parent
		}
	}
}

// writeStart writes an element's start.
func writeStart(out *strings.Builder, n api.Node) {
	out.WriteString("<" + name(n.Prefix, n.Local))
	field := func(prefix, local, value string) {
		out.WriteString(" " + name(prefix, local) + `="` + escape.Attr(value) + `"`)
	}
	for _, decl := range n.Decls {
		if decl.Prefix == "" {
			field("", declaring, decl.URI)
		} else {
			field(declaring, decl.Prefix, decl.URI)
		}
	}
	for _, a := range n.Attrs {
		field(a.Prefix, a.Local, a.Value)
	}
	out.WriteString(">")
}

// instruction is what stands within one's marks.
func instruction(n api.Node) string {
	if n.Value == "" {
		return n.Local
	}
	return n.Local + " " + n.Value
}

// name is a name with its prefix, if it has one.
func name(prefix, local string) string {
	if prefix == "" {
		return local
	}
	return prefix + ":" + local
}
