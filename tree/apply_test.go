package tree_test

import (
	"math"
	"testing"

	"hostel/api"
)

func remove(id uint8) api.Patch { return api.Patch{Kind: api.Remove, Id: id} }

func insert(id uint8, at int, key uint16, s string) api.Patch {
	return api.Patch{Kind: api.Insert, Id: id, At: at, Key: key, Text: s}
}

func move(id uint8, at int) api.Patch { return api.Patch{Kind: api.Move, Id: id, At: at} }

func retext(id uint8, s string) api.Patch { return api.Patch{Kind: api.Retext, Id: id, Text: s} }

// P6: each kind of patch, at the first place, in the middle and at the last.
func TestEachPatch(t *testing.T) {
	old := text(text(row(1, 2, 3), 0, "a"), 2, "c")
	a, b, c := old[0], old[1], old[2]
	x := api.Node{Id: 9, Key: 90, Text: "x"}
	for _, w := range []struct {
		p    api.Patch
		want []api.Node
	}{
		{remove(1), []api.Node{b, c}},
		{remove(2), []api.Node{a, c}},
		{remove(3), []api.Node{a, b}},
		{insert(9, 0, 90, "x"), []api.Node{x, a, b, c}},
		{insert(9, 1, 90, "x"), []api.Node{a, x, b, c}},
		{insert(9, 2, 90, "x"), []api.Node{a, b, x, c}},
		{insert(9, 3, 90, "x"), []api.Node{a, b, c, x}},
		{move(1, 0), []api.Node{a, b, c}},
		{move(1, 1), []api.Node{b, a, c}},
		{move(1, 2), []api.Node{b, c, a}},
		{move(2, 0), []api.Node{b, a, c}},
		{move(2, 1), []api.Node{a, b, c}},
		{move(2, 2), []api.Node{a, c, b}},
		{move(3, 0), []api.Node{c, a, b}},
		{move(3, 1), []api.Node{a, c, b}},
		{move(3, 2), []api.Node{a, b, c}},
		{retext(1, "new"), text(old, 0, "new")},
		{retext(2, "new"), text(old, 1, "new")},
		{retext(3, ""), text(old, 2, "")},
		{retext(1, "a"), old},
	} {
		wantApply(t, old, []api.Patch{w.p}, w.want)
	}
}

// P6: the patches are done one by one, each on what those ahead of it made.
func TestPatchesInTheirOrder(t *testing.T) {
	old := row(1, 2, 3)
	wantApply(t, old, nil, old)
	wantApply(t, old, []api.Patch{}, old)
	wantApply(t, nil, nil, nil)
	wantApply(t, nil, []api.Patch{insert(1, 0, 10, ""), insert(2, 0, 20, ""), insert(3, 1, 30, "")}, row(2, 3, 1))
	wantApply(t, old, []api.Patch{remove(1), remove(3), remove(2)}, nil)
	// An Id, a Key and a place are free again behind a Remove.
	wantApply(t, old, []api.Patch{remove(1), insert(1, 1, 30+1, "u"), remove(2), insert(7, 2, 10, "v")}, []api.Node{{Id: 1, Key: 31, Text: "u"}, {Id: 3, Key: 30}, {Id: 7, Key: 10, Text: "v"}})
	wantApply(t, old, []api.Patch{retext(2, "one"), move(2, 2), retext(2, "two"), move(2, 0)}, text(row(2, 1, 3), 0, "two"))
	wantApply(t, old, []api.Patch{insert(9, 3, 90, "x"), move(9, 0), retext(9, ""), remove(1)}, row(9, 2, 3))
	wantApply(t, row(upTo(1, 16)...), []api.Patch{remove(16), insert(16, 0, 160, "")}, row(16, 1, 2, 3, 4, 5, 6, 7, 8, 9, 10, 11, 12, 13, 14, 15))
	wantNoPatch(t, old, remove(2), remove(2))
	wantNoPatch(t, old, remove(2), retext(2, "x"))
	wantNoPatch(t, old, remove(2), move(2, 0))
	wantNoPatch(t, old, remove(2), insert(9, 3, 90, ""))
	wantNoPatch(t, old, remove(2), move(1, 2))
	wantNoPatch(t, old, insert(9, 0, 90, ""), insert(8, 0, 90, ""))
	wantNoPatch(t, old, insert(9, 0, 90, ""), insert(9, 0, 80, ""))
}

// P6: fields that are not named for a Kind are not looked at.
func TestOtherFields(t *testing.T) {
	old := text(row(1, 2, 3), 1, "b")
	for _, at := range []int{-9, 0, 99, math.MinInt, math.MaxInt} {
		for _, key := range []uint16{0, 10, 20, 99} {
			for _, s := range []string{"", "z", "\xff", "abcdefg"} {
				wantApply(t, old, []api.Patch{{Kind: api.Remove, Id: 2, At: at, Key: key, Text: s}}, row(1, 3))
				wantApply(t, old, []api.Patch{{Kind: api.Move, Id: 2, At: 0, Key: key, Text: s}}, text(row(2, 1, 3), 0, "b"))
				wantApply(t, old, []api.Patch{{Kind: api.Retext, Id: 2, At: at, Key: key, Text: "new"}}, text(old, 1, "new"))
			}
		}
	}
}

// P6: a Kind that is none of the four.
func TestNoSuchKind(t *testing.T) {
	for kind := range 256 {
		if kind >= 1 && kind <= 4 {
			continue
		}
		wantNoPatch(t, row(1, 2), api.Patch{Kind: uint8(kind), Id: 1})
		wantNoPatch(t, row(1, 2), api.Patch{Kind: uint8(kind), Id: 9, At: 1, Key: 90, Text: "x"})
		wantNoPatch(t, nil, api.Patch{Kind: uint8(kind)})
	}
}

// P6: an Id that no node has.
func TestNoSuchNode(t *testing.T) {
	for id := range 256 {
		for _, p := range []api.Patch{remove(uint8(id)), move(uint8(id), 0), retext(uint8(id), "x")} {
			wantNoPatch(t, nil, p)
			if id < 4 || id > 6 {
				wantNoPatch(t, row(4, 5, 6), p)
			}
		}
	}
}

// P6: an At below 0 or above the number of nodes, which for a Move is one less.
func TestNoSuchPlace(t *testing.T) {
	for n := range 16 {
		old := row(upTo(1, n)...)
		for _, at := range []int{-1, -n - 1, n + 1, n + 256, math.MinInt, math.MaxInt} {
			wantNoPatch(t, old, insert(16, at, 1, ""))
		}
		for id := 1; id <= n; id++ {
			for _, at := range []int{-1, -n, n, n + 1, math.MinInt, math.MaxInt} {
				wantNoPatch(t, old, move(uint8(id), at))
			}
		}
	}
}

// P6: a patch of which no tree comes.
func TestPatchToNoTree(t *testing.T) {
	old := row(1, 2, 3)
	for at := range 4 {
		for id := range 4 {
			wantNoPatch(t, old, insert(uint8(id), at, 90, ""))
		}
		for id := 17; id < 256; id++ {
			wantNoPatch(t, old, insert(uint8(id), at, 90, ""))
		}
		for _, key := range []uint16{10, 20, 30} {
			wantNoPatch(t, old, insert(9, at, key, ""))
		}
		wantApply(t, nil, []api.Patch{insert(16, 0, uint16(at), "")}, nodes(16, at))
	}
	// The 16th node, and a 17th, for which there is no Id.
	wantApply(t, row(upTo(1, 15)...), []api.Patch{insert(16, 15, 160, "")}, row(upTo(1, 16)...))
	wantNoPatch(t, row(upTo(1, 16)...), insert(17, 16, 170, ""))
	wantNoPatch(t, row(upTo(1, 16)...), insert(1, 0, 1, ""))
}

// P6: what cannot be done is not undone by a patch behind it, and no patch behind it is needed.
func TestFirstThatCannot(t *testing.T) {
	old := row(1, 2, 3)
	wantNoPatch(t, old, insert(1, 0, 90, ""), remove(1))
	wantNoPatch(t, old, retext(1, "abcdefg"), retext(1, ""))
	wantNoPatch(t, old, insert(9, 0, 10, ""), remove(1), remove(9))
	wantNoPatch(t, old, remove(1), remove(2), remove(3), remove(4))
	wantNoPatch(t, old, api.Patch{}, remove(1))
}
