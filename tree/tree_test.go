package tree_test

import (
	"slices"
	"strings"
	"testing"
	"unicode/utf8"

	"hostel/api"
	"hostel/tree"
)

// wantTree: a list that every call takes as a tree.
func wantTree(t *testing.T, l []api.Node) {
	t.Helper()
	wantPlan(t, l, nil, nil)
	wantApply(t, l, nil, l)
	if p, e := tree.Diff(l, nil); len(p) != len(l) || e != api.OK {
		t.Errorf("Diff(%v, nil) = %+v, %d, want OK", l, p, e)
	}
	if p, e := tree.Diff(nil, l); len(p) != len(l) || e != api.OK {
		t.Errorf("Diff(nil, %v) = %+v, %d, want OK", l, p, e)
	}
	if _, e := tree.Bytes(l); e != api.OK {
		t.Errorf("Bytes(%v): %d, want OK", l, e)
	}
}

// wantNoTree: a list that no call takes as a tree.
func wantNoTree(t *testing.T, l []api.Node) {
	t.Helper()
	wantNoPlan(t, l, nil)
	wantNoPlan(t, l, keys(1))
	// The tree is looked at ahead of the patches.
	for _, p := range [][]api.Patch{nil, {{Kind: 9}}} {
		if got, e := tree.Apply(l, p); got != nil || e != api.ErrTree {
			t.Errorf("Apply(%v, %v) = %v, %d, want nil, ErrTree", l, p, got, e)
		}
	}
	for _, other := range [][]api.Node{nil, row(1, 2), l} {
		if p, e := tree.Diff(l, other); p != nil || e != api.ErrTree {
			t.Errorf("Diff(%v, %v) = %v, %d, want nil, ErrTree", l, other, p, e)
		}
		if p, e := tree.Diff(other, l); p != nil || e != api.ErrTree {
			t.Errorf("Diff(%v, %v) = %v, %d, want nil, ErrTree", other, l, p, e)
		}
	}
	if s, e := tree.Bytes(l); s != "" || e != api.ErrTree {
		t.Errorf("Bytes(%v) = %x, %d, want ErrTree", l, s, e)
	}
}

// P5 to P8: an Id is from 1 to 16, a Key any number.
func TestIds(t *testing.T) {
	for id := range 256 {
		l := nodes(3, 5, id, 0, 4, 65535)
		if id >= 1 && id <= 16 && id != 3 && id != 4 {
			wantTree(t, l)
		} else {
			wantNoTree(t, l)
		}
	}
}

// P5 to P8: no two nodes have one Id, or one Key, wherever they stand.
func TestTwoAlike(t *testing.T) {
	for i := range 16 {
		for k := range i {
			l := row(upTo(1, 16)...)
			wantTree(t, l)
			l[i].Id = l[k].Id
			wantNoTree(t, l)
			l = row(upTo(1, 16)...)
			l[i].Key = l[k].Key
			wantNoTree(t, l)
		}
	}
	wantNoTree(t, nodes(5, 7, 5, 7))
	wantTree(t, nodes(1, 256, 2, 0, 3, 512))
}

// P5 to P8: 16 nodes and 17, and far more.
func TestHowManyNodes(t *testing.T) {
	wantTree(t, nil)
	wantTree(t, []api.Node{})
	wantTree(t, row(upTo(1, 16)...))
	wantNoTree(t, row(upTo(1, 17)...))
	wantNoTree(t, append(row(upTo(1, 16)...), api.Node{Id: 1, Key: 999}))
	wantNoTree(t, slices.Repeat(row(upTo(1, 16)...), 5000))
}

// wantText: every call takes, or does not take, a text as one.
func wantText(t *testing.T, s string, right bool) {
	t.Helper()
	old := row(1, 2, 3)
	retext := api.Patch{Kind: api.Retext, Id: 2, Text: s}
	insert := api.Patch{Kind: api.Insert, Id: 9, At: 3, Key: 90, Text: s}
	if right {
		wantTree(t, text(old, 1, s))
		wantPlan(t, old, []api.Shown{{Key: 20, Text: s}}, []api.Node{{Id: 2, Key: 20, Text: s}})
		wantApply(t, old, []api.Patch{retext}, text(old, 1, s))
		wantApply(t, old, []api.Patch{insert}, append(old, api.Node{Id: 9, Key: 90, Text: s}))
		return
	}
	wantNoTree(t, text(old, 0, s))
	wantNoTree(t, text(old, 2, s))
	wantNoPlan(t, old, []api.Shown{{Key: 1}, {Key: 20, Text: s}})
	wantNoPatch(t, old, retext)
	wantNoPatch(t, old, insert)
}

// P5 to P8: a text has 6 characters at most, however many bytes they have.
func TestHowManyCharacters(t *testing.T) {
	for _, c := range []string{"a", "\x00", "\x7f", "\u0080", "\u07ff", "\u0800", "\ufffd", "\uffff", "\U00010000", "\U0010ffff"} {
		for n := range 7 {
			wantText(t, strings.Repeat(c, n), true)
			wantText(t, strings.Repeat(c, n)+"\xff", false)
			wantText(t, strings.Repeat(c, n)+c[:len(c)-1]+"\xc3", false)
		}
		wantText(t, strings.Repeat(c, 7), false)
		wantText(t, strings.Repeat(c, 6)+"a", false)
		wantText(t, "a"+strings.Repeat(c, 6), false)
		wantText(t, strings.Repeat(c, 1<<16), false)
	}
}

// takes: whether Bytes takes s as a text; the other calls are asked in wantText.
func takes(s string) bool {
	_, e := tree.Bytes([]api.Node{{Id: 1, Text: s}})
	return e == api.OK
}

// P5 to P8: every character is one, and every number between them is none.
func TestEachCharacter(t *testing.T) {
	for v := rune(0); v <= 0x10ffff; v++ {
		s := string([]byte{0xf0 | byte(v>>18), 0x80 | byte(v>>12)&0x3f, 0x80 | byte(v>>6)&0x3f, 0x80 | byte(v)&0x3f})
		if takes(s) != (v >= 0x10000) {
			t.Fatalf("%x, four bytes for %x: %v", s, v, v < 0x10000)
		}
		if v < 0x10000 {
			s = string([]byte{0xe0 | byte(v>>12), 0x80 | byte(v>>6)&0x3f, 0x80 | byte(v)&0x3f})
			if takes(s) != utf8.ValidString(s) {
				t.Fatalf("%x, three bytes for %x: %v", s, v, !utf8.ValidString(s))
			}
		}
		if s = string(v); !takes(s) {
			t.Fatalf("%x, the character %x: no text", s, v)
		}
	}
}

// P5 to P8: all texts of one or two bytes, and all of three and four, and a part of five, at the edges of what bytes mean.
func TestBytesOfTexts(t *testing.T) {
	for a := range 256 {
		wantText(t, string([]byte{byte(a)}), a < 128)
		for b := range 256 {
			s := string([]byte{byte(a), byte(b)})
			if takes(s) != utf8.ValidString(s) {
				t.Errorf("the text %x: %v", s, takes(s))
			}
		}
	}
	edges := "\x00\x41\x7f\x80\x8f\x90\x9f\xa0\xbf\xc0\xc1\xc2\xdf\xe0\xe1\xec\xed\xee\xef\xf0\xf1\xf3\xf4\xf5\xf7\xf8\xff"
	all := []string{""}
	for range 4 {
		var longer []string
		for _, s := range all {
			for i := range len(edges) {
				longer = append(longer, s+edges[i:i+1])
			}
		}
		all = longer
		for _, s := range all {
			for _, behind := range []string{"", "\x80", "z"} {
				if takes(s+behind) != utf8.ValidString(s+behind) {
					t.Fatalf("the text %x: %v", s+behind, takes(s+behind))
				}
			}
		}
	}
}

// P5 to P8: some texts that are not valid UTF-8, in every call.
func TestWrongTexts(t *testing.T) {
	for _, s := range []string{
		"\x80", "\xbf", "a\x80", "\xc3", "a\xc3", "\xc3a", "\xc3\xc3", "\xc0\x80", "\xc1\xbf", "\xc3\xa9\xa9",
		"\xe0\x80\x80", "\xe0\x9f\xbf", "\xe2\x82", "\xe2", "\xe2\x82a", "\xe2\x28\xa1", "\xef\xbf", "\xed\xa0\x80", "\xed\xbf\xbf",
		"\xf0\x80\x80\x80", "\xf0\x8f\xbf\xbf", "\xf0\x9f\x98", "\xf0\x9f", "\xf0", "\xf0\x9f\x98a", "\xf4\x90\x80\x80", "\xf5\x80\x80\x80", "\xf8\x88\x80\x80\x80", "\xfe", "\xff",
		"\xed\xa0\xbd\xed\xb8\x80", "abcde\xff", "abcdef\xff", "abcdef\xc3", "\xffabcde",
	} {
		wantText(t, s, false)
	}
}
