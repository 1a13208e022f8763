package tree

import "hostel/api"

// patched is what a patch makes of a tree, as a fresh list; false, if it cannot be done.
func patched(l []api.Node, p api.Patch) ([]api.Node, bool) {
	if p.Kind == api.Insert {
		return with(l, p.At, api.Node{Id: p.Id, Key: p.Key, Text: p.Text})
	}
	at := placeOf(l, p.Id)
	if at < 0 {
		return nil, false
	}
	x := l[at]
	rest := without(l, at)
	switch p.Kind {
	case api.Remove:
		return rest, true
	case api.Move:
		return with(rest, p.At, x)
	case api.Retext:
		return with(rest, at, api.Node{Id: x.Id, Key: x.Key, Text: p.Text})
	}
	return nil, false
}

// without is the list without the node at a place, as a fresh list.
func without(l []api.Node, at int) []api.Node {
	var rest []api.Node
	for i, x := range l {
		if i != at {
			rest = append(rest, x)
		}
	}
	return rest
}

// with is the tree with a node put in at a place, as a fresh list; false, if there is no such place, or it were no tree.
func with(l []api.Node, at int, x api.Node) ([]api.Node, bool) {
	if at < 0 || at > len(l) {
		return nil, false
	}
	var next []api.Node
	next = append(next, l[:at]...)
	next = append(next, x)
	next = append(next, l[at:]...)
	if !isTree(next) {
		return nil, false
	}
	return next, true
}
