package tree_test

import (
	"math"
	"math/rand"
	"slices"
	"testing"

	"hostel/api"
	"hostel/tree"
)

// someText: a text, seldom one that is none.
func someText(r *rand.Rand) string {
	all := []string{"", "a", "b", "\u00e9", "\U0001f600!", "abcdef", "abcdef", "abcdefg", "a\xff", "\xed\xa0\x80"}
	if r.Intn(9) > 0 {
		return all[r.Intn(6)]
	}
	return all[r.Intn(len(all))]
}

// someTree: a tree of at most n nodes, whose keys are few.
func someTree(r *rand.Rand, n int) []api.Node {
	var l []api.Node
	ids := r.Perm(16)
	keys := r.Perm(20)
	for i := range r.Intn(n + 1) {
		key := keys[i]
		if r.Intn(2) == 0 {
			// Many trees that have one Id have one Key with it.
			key = ids[i]
		}
		x := api.Node{Id: uint8(ids[i] + 1), Key: uint16(key), Text: someText(r)}
		if rightTree(append(slices.Clone(l), x)) {
			l = append(l, x)
		}
	}
	return l
}

// someNodes: a tree, seldom a list that is none.
func someNodes(r *rand.Rand) []api.Node {
	l := someTree(r, 16)
	if len(l) > 0 && r.Intn(8) == 0 {
		l[r.Intn(len(l))] = api.Node{Id: uint8(r.Intn(18)), Key: uint16(r.Intn(20)), Text: someText(r)}
	}
	return l
}

func somePatches(r *rand.Rand) []api.Patch {
	var l []api.Patch
	for range r.Intn(6) {
		p := api.Patch{Kind: uint8(1 + r.Intn(4)), Id: uint8(r.Intn(17)), At: r.Intn(9) - 1, Key: uint16(r.Intn(20)), Text: someText(r)}
		switch r.Intn(40) {
		case 0:
			p.At = math.MinInt
		case 1:
			p.At = math.MaxInt
		case 2:
			p.Kind = uint8(r.Intn(256))
		}
		l = append(l, p)
	}
	return l
}

func someShows(r *rand.Rand) []api.Shown {
	var l []api.Shown
	for _, key := range r.Perm(20)[:r.Intn(10)] {
		l = append(l, api.Shown{Key: uint16(key), Text: someText(r)})
	}
	if len(l) > 0 && r.Intn(8) == 0 {
		l[0].Key = l[len(l)-1].Key
	}
	return l
}

// roomy: the list with spare room behind it, and all of that room.
func roomy[T any](l []T, spare T) ([]T, []T) {
	room := append(slices.Clone(l), spare, spare, spare)
	return room[:len(l)], room
}

var spareNode = api.Node{Id: 99, Key: 99, Text: "spare"}

var sparePatch = api.Patch{Kind: 99, Id: 99, At: 99, Key: 99, Text: "spare"}

var spareShow = api.Shown{Key: 99, Text: "spare"}

// scribble: writes into a list and the spare room behind it.
func scribble[T any](l []T, v T) {
	l = l[:cap(l)]
	for i := range l {
		l[i] = v
	}
}

// P1, P2, P5: Plan of any lists answers as the document says, and leaves them be.
func TestAnyPlan(t *testing.T) {
	r := rand.New(rand.NewSource(5))
	seen := [2]int{}
	for range 50000 {
		old, oldRoom := roomy(someNodes(r), spareNode)
		shows, showRoom := roomy(someShows(r), spareShow)
		oldWas, showWas := slices.Clone(oldRoom), slices.Clone(showRoom)
		got, e := tree.Plan(old, shows)
		want, f := planned(old, shows)
		if !slices.Equal(got, want) || e != f || e != api.OK && got != nil {
			t.Fatalf("Plan(%v, %v) = %v, %d, want %v, %d", old, shows, got, e, want, f)
		}
		scribble(got, spareNode)
		if !slices.Equal(oldRoom, oldWas) || !slices.Equal(showRoom, showWas) {
			t.Fatalf("P2: Plan wrote into %v, %v: %v, %v", oldWas, showWas, oldRoom, showRoom)
		}
		seen[min(1, e)]++
	}
	if min(seen[0], seen[1]) < 1000 {
		t.Errorf("the lists of this test are too much alike: %v", seen)
	}
}

// P1, P2, P6: Apply of any lists answers as the document says, and leaves them be.
func TestAnyApply(t *testing.T) {
	r := rand.New(rand.NewSource(6))
	seen := [10]int{}
	for range 100000 {
		old, oldRoom := roomy(someNodes(r), spareNode)
		l, room := roomy(somePatches(r), sparePatch)
		oldWas, was := slices.Clone(oldRoom), slices.Clone(room)
		got, e := tree.Apply(old, l)
		want, f := applied(old, l)
		if !slices.Equal(got, want) || e != f || e != api.OK && got != nil {
			t.Fatalf("Apply(%v, %+v) = %v, %d, want %v, %d", old, l, got, e, want, f)
		}
		scribble(got, spareNode)
		if !slices.Equal(oldRoom, oldWas) || !slices.Equal(room, was) {
			t.Fatalf("P2: Apply wrote into %v, %+v: %v, %+v", oldWas, was, oldRoom, room)
		}
		seen[e]++
	}
	if min(seen[api.OK], seen[api.ErrTree], seen[api.ErrPatch]) < 1000 {
		t.Errorf("the lists of this test are too much alike: %v", seen)
	}
}

// P1, P2, P7: Diff of any lists answers as the document says, and leaves them be.
func TestAnyDiff(t *testing.T) {
	r := rand.New(rand.NewSource(7))
	seen := count{}
	for range 30000 {
		old, oldRoom := roomy(someNodes(r), spareNode)
		next, room := roomy(someNodes(r), spareNode)
		oldWas, was := slices.Clone(oldRoom), slices.Clone(room)
		if rightTree(old) && rightTree(next) {
			want := fewest(old, next)
			wantDiff(t, old, next, want)
			seen = count{seen.removes + want.removes, seen.inserts + want.inserts, seen.moves + want.moves, seen.retexts + want.retexts}
		} else if l, e := tree.Diff(old, next); l != nil || e != api.ErrTree {
			t.Fatalf("Diff(%v, %v) = %+v, %d, want ErrTree", old, next, l, e)
		}
		if !slices.Equal(oldRoom, oldWas) || !slices.Equal(room, was) {
			t.Fatalf("P2: Diff wrote into %v, %v: %v, %v", oldWas, was, oldRoom, room)
		}
		if t.Failed() {
			return
		}
	}
	if min(seen.removes, seen.inserts, seen.moves, seen.retexts) < 1000 {
		t.Errorf("the trees of this test are too much alike: %+v", seen)
	}
}

// P7: Diff of a tree and one with its nodes in another order, and some texts of its own.
func TestAnyOrder(t *testing.T) {
	r := rand.New(rand.NewSource(8))
	for range 3000 {
		old := someTree(r, 16)
		next := slices.Clone(old)
		r.Shuffle(len(next), func(i, k int) { next[i], next[k] = next[k], next[i] })
		for i := range next {
			if r.Intn(3) == 0 {
				next[i].Text = "new"
			}
		}
		wantDiff(t, old, next, fewest(old, next))
		if t.Failed() {
			return
		}
	}
}

// P1, P2, P8: Bytes of any list answers as the document says, and leaves it be.
func TestAnyBytes(t *testing.T) {
	r := rand.New(rand.NewSource(9))
	for range 20000 {
		l, room := roomy(someNodes(r), spareNode)
		was := slices.Clone(room)
		want := ""
		for _, x := range l {
			want += string([]byte{x.Id, byte(x.Key / 256), byte(x.Key % 256), byte(len(x.Text))}) + x.Text
		}
		e := api.OK
		if !rightTree(l) {
			want = ""
			e = api.ErrTree
		}
		if got, f := tree.Bytes(l); got != want || f != e {
			t.Fatalf("Bytes(%v) = %x, %d, want %x, %d", l, got, f, want, e)
		}
		if !slices.Equal(room, was) {
			t.Fatalf("P2: Bytes wrote into %v: %v", was, room)
		}
	}
}

// P2: what comes out is the caller's: writing into it changes no other answer, and nothing that was handed in.
func TestAnswersAreFresh(t *testing.T) {
	old := text(row(1, 2, 3), 0, "a")
	next := text(row(9, 3, 1), 1, "c")
	patches := []api.Patch{remove(1), insert(4, 0, 40, "d")}
	for range 2 {
		plan, _ := tree.Plan(old, keys(10, 30, 50))
		same, _ := tree.Apply(old, nil)
		turned, _ := tree.Apply(old, patches)
		diff, _ := tree.Diff(old, next)
		plan2, _ := tree.Plan(old, keys(10, 30, 50))
		same2, _ := tree.Apply(old, nil)
		turned2, _ := tree.Apply(old, patches)
		diff2, _ := tree.Diff(old, next)
		scribble(plan2, spareNode)
		scribble(same2, spareNode)
		scribble(turned2, spareNode)
		scribble(diff2, sparePatch)
		if !slices.Equal(plan, nodes(1, 10, 3, 30, 4, 50)) || !slices.Equal(same, old) || !slices.Equal(turned, []api.Node{{Id: 4, Key: 40, Text: "d"}, {Id: 2, Key: 20}, {Id: 3, Key: 30}}) {
			t.Errorf("P2: lists beside such as were written into: %v, %v, %v", plan, same, turned)
		}
		if made, e := tree.Apply(old, diff); !slices.Equal(made, next) || e != api.OK {
			t.Errorf("P2: patches beside such as were written into: %+v", diff)
		}
	}
	if !slices.Equal(old, text(row(1, 2, 3), 0, "a")) || !slices.Equal(next, text(row(9, 3, 1), 1, "c")) || !slices.Equal(patches, []api.Patch{remove(1), insert(4, 0, 40, "d")}) {
		t.Errorf("P2: what was handed in: %v, %v, %+v", old, next, patches)
	}
}

// P2: later writing into what was handed in changes no answer.
func TestNothingIsKept(t *testing.T) {
	old := row(1, 2, 3)
	next := row(3, 2, 4)
	shows := keys(20, 7)
	patches := []api.Patch{move(1, 2)}
	plan, _ := tree.Plan(old, shows)
	same, _ := tree.Apply(old, nil)
	turned, _ := tree.Apply(old, patches)
	diff, _ := tree.Diff(old, next)
	scribble(old, spareNode)
	scribble(next, spareNode)
	scribble(shows, spareShow)
	scribble(patches, sparePatch)
	if !slices.Equal(plan, nodes(2, 20, 4, 7)) || !slices.Equal(same, row(1, 2, 3)) || !slices.Equal(turned, row(2, 3, 1)) {
		t.Errorf("P2: answers whose lists were written into: %v, %v, %v", plan, same, turned)
	}
	wantApply(t, row(1, 2, 3), diff, row(3, 2, 4))
}

// P1, P6: a long list of patches is done to its end.
func TestLongLists(t *testing.T) {
	long := slices.Repeat([]api.Patch{move(1, 2), retext(2, "x"), remove(3), insert(3, 0, 30, "")}, 20000)
	got, e := tree.Apply(row(1, 2, 3), long)
	want, _ := applied(row(1, 2, 3), long)
	if !slices.Equal(got, want) || e != api.OK {
		t.Errorf("Apply of a long list = %v, %d, want %v, OK", got, e, want)
	}
	long = append(long, retext(9, ""))
	if got, e := tree.Apply(row(1, 2, 3), long); got != nil || e != api.ErrPatch {
		t.Errorf("Apply of a long list that ends wrong = %v, %d, want ErrPatch", got, e)
	}
}
