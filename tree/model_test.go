package tree_test

import (
	"slices"
	"testing"
	"unicode/utf8"

	"hostel/api"
	"hostel/tree"
)

// What the document says, written down once more with all of Go: the tests hold the package against it.

// nodes: a list of nodes without texts, of Id, Key, Id, Key, and so on.
func nodes(v ...int) []api.Node {
	var l []api.Node
	for i := 0; i+1 < len(v); i += 2 {
		l = append(l, api.Node{Id: uint8(v[i]), Key: uint16(v[i+1])})
	}
	return l
}

// row: a list of nodes with these Ids, whose keys are ten times their Ids.
func row(ids ...int) []api.Node {
	var l []api.Node
	for _, id := range ids {
		l = append(l, api.Node{Id: uint8(id), Key: uint16(10 * id)})
	}
	return l
}

// upTo: the numbers from a to b.
func upTo(a, b int) []int {
	var l []int
	for i := a; i <= b; i++ {
		l = append(l, i)
	}
	return l
}

// keys: shows with these keys, without texts.
func keys(v ...int) []api.Shown {
	var l []api.Shown
	for _, k := range v {
		l = append(l, api.Shown{Key: uint16(k)})
	}
	return l
}

// text: the list with a text for the node at a place.
func text(l []api.Node, at int, s string) []api.Node {
	l = slices.Clone(l)
	l[at].Text = s
	return l
}

func rightText(s string) bool { return utf8.ValidString(s) && utf8.RuneCountInString(s) <= 6 }

func rightTree(l []api.Node) bool {
	ids := map[uint8]bool{}
	keys := map[uint16]bool{}
	for _, x := range l {
		if x.Id == 0 || x.Id > 16 || ids[x.Id] || keys[x.Key] || !rightText(x.Text) {
			return false
		}
		ids[x.Id] = true
		keys[x.Key] = true
	}
	return len(l) <= 16
}

func withId(l []api.Node, id uint8) int {
	return slices.IndexFunc(l, func(x api.Node) bool { return x.Id == id })
}

func withKey(l []api.Node, key uint16) int {
	return slices.IndexFunc(l, func(x api.Node) bool { return x.Key == key })
}

// planned: what Plan is to answer.
func planned(old []api.Node, shows []api.Shown) ([]api.Node, api.Errno) {
	if !rightTree(old) || len(shows) > 8 {
		return nil, api.ErrTree
	}
	var next []api.Node
	for i, s := range shows {
		if !rightText(s.Text) || slices.ContainsFunc(shows[:i], func(o api.Shown) bool { return o.Key == s.Key }) {
			return nil, api.ErrTree
		}
		id := uint8(1)
		if at := withKey(old, s.Key); at >= 0 {
			id = old[at].Id
		} else {
			for withId(old, id) >= 0 || withId(next, id) >= 0 {
				id++
			}
		}
		if id > 16 {
			return nil, api.ErrTree
		}
		next = append(next, api.Node{Id: id, Key: s.Key, Text: s.Text})
	}
	return next, api.OK
}

// applied: what Apply is to answer.
func applied(old []api.Node, l []api.Patch) ([]api.Node, api.Errno) {
	if !rightTree(old) {
		return nil, api.ErrTree
	}
	now := slices.Clone(old)
	for _, p := range l {
		at := withId(now, p.Id)
		if p.Kind < 1 || p.Kind > 4 || at < 0 && p.Kind != api.Insert {
			return nil, api.ErrPatch
		}
		x := api.Node{Id: p.Id, Key: p.Key, Text: p.Text}
		if p.Kind == api.Move {
			x = now[at]
		}
		if p.Kind == api.Remove || p.Kind == api.Move {
			now = slices.Delete(now, at, at+1)
		}
		if p.Kind == api.Insert || p.Kind == api.Move {
			if p.At < 0 || p.At > len(now) {
				return nil, api.ErrPatch
			}
			now = slices.Insert(now, p.At, x)
		}
		if p.Kind == api.Retext {
			now[at].Text = p.Text
		}
		if !rightTree(now) {
			return nil, api.ErrPatch
		}
	}
	return now, api.OK
}

func wantPlan(t *testing.T, old []api.Node, shows []api.Shown, want []api.Node) {
	t.Helper()
	if l, e := tree.Plan(old, shows); !slices.Equal(l, want) || e != api.OK {
		t.Errorf("Plan(%v, %v) = %v, %d, want %v, OK", old, shows, l, e, want)
	}
}

func wantNoPlan(t *testing.T, old []api.Node, shows []api.Shown) {
	t.Helper()
	if l, e := tree.Plan(old, shows); l != nil || e != api.ErrTree {
		t.Errorf("Plan(%v, %v) = %v, %d, want nil, ErrTree", old, shows, l, e)
	}
}

func wantApply(t *testing.T, old []api.Node, l []api.Patch, want []api.Node) {
	t.Helper()
	if got, e := tree.Apply(old, l); !slices.Equal(got, want) || e != api.OK {
		t.Errorf("Apply(%v, %+v) = %v, %d, want %v, OK", old, l, got, e, want)
	}
}

func wantNoPatch(t *testing.T, old []api.Node, l ...api.Patch) {
	t.Helper()
	if got, e := tree.Apply(old, l); got != nil || e != api.ErrPatch {
		t.Errorf("Apply(%v, %+v) = %v, %d, want nil, ErrPatch", old, l, got, e)
	}
}
