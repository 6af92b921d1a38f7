package tree

import (
	"lanyard/api"
)

// nobody is the Parent of the outermost element.
const nobody = -1

// Right tells whether a tree hangs together.
func Right(d api.Doc) bool {
	if len(d.Nodes) == 0 {
		return false
	}
	kids := 0
	for i := range d.Nodes {
		if !hasRightKind(d, i) || !hasRightParent(d, i) || !hasRightKids(d, i) {
			return false
		}
		kids += len(d.Nodes[i].Kids)
	}
	// Each kid is listed by its own Parent alone, and once there: if they are as many as there are nodes but the first, none is missing.
	return kids == len(d.Nodes)-1
}

// hasRightKind tells whether node i is one of the four kinds, and has what its kind may have.
func hasRightKind(d api.Doc, i int) bool {
	n := &d.Nodes[i]
	switch n.Kind {
	case api.Elem:
		return true
	case api.Chars, api.Comment, api.Proc:
		return len(n.Attrs) == 0 && len(n.Decls) == 0
	}
	return false
}

// hasRightParent tells whether node i is an element's that stands ahead of it, or the outermost element.
func hasRightParent(d api.Doc, i int) bool {
	parent := d.Nodes[i].Parent
	if i == 0 {
		return parent == nobody && d.Nodes[i].Kind == api.Elem
	}
	return 0 <= parent && parent < i && d.Nodes[parent].Kind == api.Elem
}

// hasRightKids tells whether node i's Kids are nodes whose Parent it is, rising. Some may be missing.
func hasRightKids(d api.Doc, i int) bool {
	last := i
	for _, kid := range d.Nodes[i].Kids {
		if kid <= last || !hasNode(d, kid) || d.Nodes[kid].Parent != i {
			return false
		}
		last = kid
	}
	return true
}

// hasNode tells whether i is a node's number.
func hasNode(d api.Doc, i int) bool {
	return 0 <= i && i < len(d.Nodes)
}

// hasElement tells whether a tree is right, and i an element's number.
func hasElement(d api.Doc, i int) bool {
	return hasNode(d, i) && d.Nodes[i].Kind == api.Elem && Right(d)
}
