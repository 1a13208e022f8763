package tree

import "hostel/api"

// change is a tree on its way to another: as it is now, and the patches that made it so.
type change struct {
	now     []api.Node
	patches []api.Patch
}

// do does one patch more. Here none is made that cannot be done.
func (c *change) do(p api.Patch) {
	next, _ := patched(c.now, p)
	c.now = next
	c.patches = append(c.patches, p)
}

// removeOthers removes the nodes of old that do not stay in next.
func (c *change) removeOthers(old, next []api.Node) {
	for _, x := range old {
		at := placeOf(next, x.Id)
		if at < 0 || next[at].Key != x.Key {
			c.do(api.Patch{Kind: api.Remove, Id: x.Id})
		}
	}
}

// arrange brings the nodes that stay, and those that come in, into the order of next.
func (c *change) arrange(next []api.Node) {
	var was []int
	for _, x := range next {
		was = append(was, placeOf(c.now, x.Id))
	}
	rests := longestRise(was)
	for i, x := range next {
		at := c.behind(next[:i])
		if was[i] < 0 {
			c.do(api.Patch{Kind: api.Insert, Id: x.Id, At: at, Key: x.Key, Text: x.Text})
		} else if !rests[i] {
			c.move(x.Id, at)
		}
	}
}

// behind is the place just behind the last of the nodes that are in their order already.
func (c *change) behind(ahead []api.Node) int {
	if len(ahead) == 0 {
		return 0
	}
	// Not simply their number: nodes that are still to be moved may stand among them.
	return placeOf(c.now, ahead[len(ahead)-1].Id) + 1
}

// move moves the node with an Id to stand ahead of what is at a place now.
func (c *change) move(id uint8, at int) {
	// A patch counts the place without the moved node.
	if placeOf(c.now, id) < at {
		at--
	}
	c.do(api.Patch{Kind: api.Move, Id: id, At: at})
}

// retext gives each node the text that it has in next.
func (c *change) retext(next []api.Node) {
	for _, x := range next {
		at := placeOf(c.now, x.Id)
		if at >= 0 && c.now[at].Text != x.Text {
			c.do(api.Patch{Kind: api.Retext, Id: x.Id, Text: x.Text})
		}
	}
}
