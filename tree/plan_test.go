package tree_test

import (
	"testing"

	"hostel/api"
)

// P5: a node for each show, in their order, with its Key and Text.
func TestPlanShows(t *testing.T) {
	wantPlan(t, nil, nil, nil)
	wantPlan(t, []api.Node{}, []api.Shown{}, nil)
	wantPlan(t, row(1, 2, 3), nil, nil)
	wantPlan(t, nil, []api.Shown{{Key: 65535, Text: "!"}, {Key: 0, Text: ""}, {Key: 7, Text: "h\u00e9"}}, []api.Node{{Id: 1, Key: 65535, Text: "!"}, {Id: 2, Key: 0}, {Id: 3, Key: 7, Text: "h\u00e9"}})
	// The text that was does not stay.
	wantPlan(t, []api.Node{{Id: 4, Key: 9, Text: "old"}}, []api.Shown{{Key: 9, Text: "new"}}, []api.Node{{Id: 4, Key: 9, Text: "new"}})
	wantPlan(t, []api.Node{{Id: 4, Key: 9, Text: "old"}}, []api.Shown{{Key: 9}}, []api.Node{{Id: 4, Key: 9}})
}

// P5: a key that old has keeps its Id, wherever it stands; another gets the least Id that is free.
func TestPlanIds(t *testing.T) {
	old := nodes(1, 10, 2, 20)
	wantPlan(t, old, keys(20, 30, 10), nodes(2, 20, 3, 30, 1, 10))
	wantPlan(t, nodes(2, 20, 3, 30, 1, 10), keys(40, 30), nodes(4, 40, 3, 30))
	// An Id in old is not free, though its node goes.
	wantPlan(t, old, keys(40, 30), nodes(3, 40, 4, 30))
	wantPlan(t, nodes(2, 20, 5, 50), keys(1, 50, 2, 3), nodes(1, 1, 5, 50, 3, 2, 4, 3))
	wantPlan(t, nodes(1, 1, 3, 3, 4, 4, 16, 16), keys(9, 8, 16, 7), nodes(2, 9, 5, 8, 16, 16, 6, 7))
	wantPlan(t, nodes(16, 1), keys(1), nodes(16, 1))
	wantPlan(t, nodes(16, 1), keys(2), nodes(1, 2))
	// A key that old has in the low or the high byte alone is another key.
	wantPlan(t, nodes(5, 256), keys(0, 1, 257), nodes(1, 0, 2, 1, 3, 257))
	// The Id is what names a node, not its place or its key.
	wantPlan(t, nodes(3, 1, 1, 2, 2, 3), keys(1, 2, 3), nodes(3, 1, 1, 2, 2, 3))
}

// P5: Ids up to 16, and no further.
func TestPlanRunsOutOfIds(t *testing.T) {
	wantPlan(t, row(upTo(1, 8)...), keys(upTo(1, 8)...), nodes(9, 1, 10, 2, 11, 3, 12, 4, 13, 5, 14, 6, 15, 7, 16, 8))
	wantNoPlan(t, row(upTo(1, 9)...), keys(upTo(1, 8)...))
	wantPlan(t, row(upTo(1, 9)...), keys(upTo(1, 7)...), nodes(10, 1, 11, 2, 12, 3, 13, 4, 14, 5, 15, 6, 16, 7))
	wantPlan(t, row(upTo(1, 15)...), keys(1, 150), nodes(16, 1, 15, 150))
	wantNoPlan(t, row(upTo(1, 15)...), keys(1, 2))
	wantPlan(t, row(upTo(1, 16)...), keys(160, 150, 10, 20, 30, 40, 50, 60), row(16, 15, 1, 2, 3, 4, 5, 6))
	wantNoPlan(t, row(upTo(1, 16)...), keys(1))
	wantNoPlan(t, row(upTo(1, 16)...), keys(10, 20, 1, 30))
}

// P5: 8 shows and 9, also where each has a node in old, and far more.
func TestPlanHowManyShows(t *testing.T) {
	wantPlan(t, nil, keys(upTo(11, 18)...), nodes(1, 11, 2, 12, 3, 13, 4, 14, 5, 15, 6, 16, 7, 17, 8, 18))
	wantNoPlan(t, nil, keys(upTo(11, 19)...))
	wantNoPlan(t, row(upTo(1, 16)...), keys(10, 20, 30, 40, 50, 60, 70, 80, 90))
	wantNoPlan(t, nil, keys(upTo(0, 65535)...))
}

// P5: no two shows have one key, whether old has it or not.
func TestPlanOneKeyTwice(t *testing.T) {
	for _, old := range [][]api.Node{nil, row(1, 2, 3), nodes(5, 4, 6, 0)} {
		wantNoPlan(t, old, keys(4, 4))
		wantNoPlan(t, old, keys(0, 9, 0))
		wantNoPlan(t, old, keys(9, 1, 2, 3, 5, 6, 7, 9))
		wantNoPlan(t, old, []api.Shown{{Key: 10, Text: "a"}, {Key: 10, Text: "b"}})
	}
}
