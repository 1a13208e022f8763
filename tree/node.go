package tree

import "hostel/api"

// isTree says whether a list of nodes is a tree.
func isTree(l []api.Node) bool {
	// The length is looked at first, so that a list of any length is refused at once.
	if len(l) > api.MaxNodes {
		return false
	}
	for i, x := range l {
		if x.Id < 1 || x.Id > api.MaxId || !isText(x.Text) {
			return false
		}
		if clashes(l[:i], x) {
			return false
		}
	}
	return true
}

// clashes says whether a node of the list has the Id or the Key of x.
func clashes(l []api.Node, x api.Node) bool {
	for _, other := range l {
		if other.Id == x.Id || other.Key == x.Key {
			return true
		}
	}
	return false
}

// placeOf is where the node with an Id stands; -1, if there is none.
func placeOf(l []api.Node, id uint8) int {
	for i, x := range l {
		if x.Id == id {
			return i
		}
	}
	return -1
}

// idFor is the Id of a node that is to show a key, behind the nodes of next; 0, if none is to be had.
func idFor(key uint16, old []api.Node, next []api.Node) uint8 {
	for _, x := range old {
		if x.Key == key {
			return x.Id
		}
	}
	for id := uint8(1); id <= api.MaxId; id++ {
		if placeOf(old, id) < 0 && placeOf(next, id) < 0 {
			return id
		}
	}
	return 0
}
