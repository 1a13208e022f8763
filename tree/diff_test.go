package tree_test

import (
	"slices"
	"testing"

	"hostel/api"
	"hostel/tree"
)

// count: how many patches of each kind there are.
type count struct{ removes, inserts, moves, retexts int }

func (c count) all() int { return c.removes + c.inserts + c.moves + c.retexts }

// rise: how many numbers the longest row has that rises through l, found by trying all rows.
func rise(l []int, above int) int {
	if len(l) == 0 {
		return 0
	}
	best := rise(l[1:], above)
	if l[0] > above {
		best = max(best, 1+rise(l[1:], l[0]))
	}
	return best
}

// fewest: how many patches of each kind Diff is to answer.
func fewest(old, next []api.Node) count {
	var c count
	var was []int
	for _, x := range next {
		at := withId(old, x.Id)
		if at < 0 || old[at].Key != x.Key {
			c.inserts++
			continue
		}
		was = append(was, at)
		if old[at].Text != x.Text {
			c.retexts++
		}
	}
	c.removes = len(old) - len(was)
	c.moves = len(was) - rise(was, -1)
	return c
}

// counted: how many patches of each kind there are; false, if one has a field that says nothing in it.
func counted(l []api.Patch) (count, bool) {
	var c count
	for _, p := range l {
		bare := api.Patch{Kind: p.Kind, Id: p.Id}
		switch p.Kind {
		case api.Remove:
			c.removes++
		case api.Insert:
			c.inserts++
			bare = p
		case api.Move:
			c.moves++
			bare.At = p.At
		case api.Retext:
			c.retexts++
			bare.Text = p.Text
		}
		if p != bare {
			return c, false
		}
	}
	return c, c.all() == len(l)
}

// wantDiff: the patches make next of old, and are as many as they are to be.
func wantDiff(t *testing.T, old, next []api.Node, want count) {
	t.Helper()
	l, e := tree.Diff(old, next)
	made, f := applied(old, l)
	if e != api.OK || f != api.OK || !slices.Equal(made, next) {
		t.Errorf("Diff(%v, %v) = %+v, %d, which make %v, %d", old, next, l, e, made, f)
	}
	if got, bare := counted(l); got != want || !bare {
		t.Errorf("Diff(%v, %v) = %+v: %+v, want %+v", old, next, l, got, want)
	}
	if made, f = tree.Apply(old, l); f != api.OK || !slices.Equal(made, next) {
		t.Errorf("Diff(%v, %v) = %+v, of which Apply makes %v, %d", old, next, l, made, f)
	}
}

// P7: the examples of the document.
func TestExamplesOfDiff(t *testing.T) {
	l, e := tree.Diff(row(1, 2, 3), row(3, 1, 2))
	if !slices.Equal(l, []api.Patch{{Kind: api.Move, Id: 3, At: 0}}) || e != api.OK {
		t.Errorf("Diff of 1, 2, 3 and 3, 1, 2: %+v, %d", l, e)
	}
	for n := range 17 {
		same := row(upTo(1, n)...)
		wantDiff(t, same, slices.Clone(same), count{})
		wantDiff(t, nil, same, count{inserts: n})
		wantDiff(t, same, []api.Node{}, count{removes: n})
	}
}

// P7: a node stays by its Id and its Key; what has only one of them goes, and comes anew.
func TestWhatStays(t *testing.T) {
	old := text(row(1, 2, 3), 1, "b")
	wantDiff(t, old, text(row(1, 2, 3), 1, "c"), count{retexts: 1})
	wantDiff(t, old, row(1, 2, 3), count{retexts: 1})
	wantDiff(t, old, text(text(text(old, 0, "x"), 1, "y"), 2, "z"), count{retexts: 3})
	wantDiff(t, old, text(row(2, 1, 3), 0, "c"), count{moves: 1, retexts: 1})
	wantDiff(t, row(1, 2, 3), nodes(1, 11, 2, 20, 3, 30), count{removes: 1, inserts: 1})
	wantDiff(t, row(1, 2, 3), nodes(4, 10, 2, 20, 3, 30), count{removes: 1, inserts: 1})
	// Ids that change hands, and keys that do: all of them go.
	wantDiff(t, row(1, 2, 3), nodes(2, 10, 1, 20, 3, 30), count{removes: 2, inserts: 2})
	wantDiff(t, row(1, 2, 3), nodes(2, 10, 3, 20, 1, 30), count{removes: 3, inserts: 3})
	wantDiff(t, row(1, 2, 3), text(nodes(2, 10, 1, 20, 3, 30), 2, "t"), count{removes: 2, inserts: 2, retexts: 1})
	// Of a new node the text comes with it.
	wantDiff(t, row(1, 2), text(row(1, 3, 2), 1, "new"), count{inserts: 1})
	// A full tree: nothing comes ahead of what goes.
	full := row(upTo(1, 16)...)
	var other []api.Node
	for i, x := range full {
		other = append(other, api.Node{Id: x.Id, Key: full[15-i].Key, Text: "other"})
	}
	wantDiff(t, full, other, count{removes: 16, inserts: 16})
	// Keys that are alike in one byte alone.
	wantDiff(t, nodes(1, 256, 2, 1), nodes(1, 0, 2, 257), count{removes: 2, inserts: 2})
}

// P7: new nodes come to stand anywhere, among such as move.
func TestGoStayCome(t *testing.T) {
	wantDiff(t, row(1, 2, 3), row(4, 3, 1), count{removes: 1, inserts: 1, moves: 1})
	wantDiff(t, row(1, 2, 3), row(4, 1, 5, 2, 6, 3, 7), count{inserts: 4})
	wantDiff(t, row(1, 2, 3, 4, 5, 6), row(9, 6, 8, 2, 7, 4), count{removes: 3, inserts: 3, moves: 1})
	wantDiff(t, row(3, 1, 2), row(1, 9, 2, 3, 8), count{inserts: 2, moves: 1})
	wantDiff(t, row(upTo(1, 15)...), row(15, 16, 1, 14, 2, 13, 3, 12, 4, 11, 5, 10, 6, 9, 7, 8), count{inserts: 1, moves: 7})
}

// P7: as few as can be are moved: all but one of a list turned round, one of a list with its end ahead.
func TestFewestMoves(t *testing.T) {
	for n := 1; n <= 16; n++ {
		up := row(upTo(1, n)...)
		down := slices.Clone(up)
		slices.Reverse(down)
		wantDiff(t, up, down, count{moves: n - 1})
		wantDiff(t, down, up, count{moves: n - 1})
		for i := range n {
			for k := range n {
				turned := slices.Delete(slices.Clone(up), i, i+1)
				turned = slices.Insert(turned, k, up[i])
				want := count{moves: 1}
				if i == k {
					want = count{}
				}
				wantDiff(t, up, turned, want)
			}
			around := slices.Concat(up[i:], up[:i])
			wantDiff(t, up, around, count{moves: min(i, n-i)})
		}
	}
	wantDiff(t, row(1, 2, 3, 4, 5, 6), row(4, 1, 5, 2, 6, 3), count{moves: 3})
	wantDiff(t, row(1, 2, 3, 4, 5, 6, 7, 8), row(2, 1, 4, 3, 6, 5, 8, 7), count{moves: 4})
}

// orders: all orders of l.
func orders(l []api.Node) [][]api.Node {
	if len(l) == 0 {
		return [][]api.Node{nil}
	}
	var all [][]api.Node
	for i := range l {
		for _, rest := range orders(slices.Concat(l[:i], l[i+1:])) {
			all = append(all, append(rest, l[i]))
		}
	}
	return all
}

// P7: no moves fewer than Diff's bring any order of 1 to 6 nodes about: they are counted by doing all that there are.
func TestAllOrders(t *testing.T) {
	for n := 1; n <= 6; n++ {
		first := row(upTo(1, n)...)
		steps := map[string]int{name(first): 0}
		todo := [][]api.Node{first}
		for len(todo) > 0 {
			now := todo[0]
			todo = todo[1:]
			for i := range n {
				for k := range n {
					next := slices.Insert(slices.Delete(slices.Clone(now), i, i+1), k, now[i])
					if _, seen := steps[name(next)]; !seen {
						steps[name(next)] = steps[name(now)] + 1
						todo = append(todo, next)
					}
				}
			}
		}
		for _, next := range orders(first) {
			wantDiff(t, first, next, count{moves: steps[name(next)]})
		}
	}
}

// name: the Ids of a list as a text.
func name(l []api.Node) string {
	var b []byte
	for _, x := range l {
		b = append(b, x.Id)
	}
	return string(b)
}

// P7: every two trees of few nodes, whose Ids and Keys are few.
func TestSmallTrees(t *testing.T) {
	all := [][]api.Node{nil}
	for from := 0; from < len(all) && len(all[from]) < 3; from++ {
		for id := uint8(1); id <= 3; id++ {
			for key := range uint16(3) {
				x := api.Node{Id: id, Key: key, Text: "t"[:(int(id)+int(key)+len(all[from]))%2]}
				if l := append(slices.Clone(all[from]), x); rightTree(l) {
					all = append(all, l)
				}
			}
		}
	}
	if len(all) != 1+9+36+36 {
		t.Fatalf("there are %d small trees", len(all))
	}
	for _, old := range all {
		for _, next := range all {
			wantDiff(t, old, next, fewest(old, next))
		}
	}
}
