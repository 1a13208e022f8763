package host_test

import (
	"testing"

	"hostel/api"
)

// teller stores what a run is given: the event's What, Arg and From, the route, and two draws; it counts in the cell 7.
func teller(t *testing.T) string {
	t.Helper()
	return code(t, list(ins(api.What), ins(api.Store, 0), ins(api.Arg), ins(api.Store, 1), ins(api.From), ins(api.Store, 2), ins(api.Route), ins(api.Store, 3), ins(api.Draw), ins(api.Store, 4), ins(api.Draw), ins(api.Store, 5), ins(api.Load, 7), ins(api.Push, 1), ins(api.Add), ins(api.Store, 7)))
}

func wantCells(t *testing.T, got, want [8]uint16) {
	t.Helper()
	if got != want {
		t.Errorf("the cells are %v, want %v", got, want)
	}
}

func wantLog(t *testing.T, got []api.Entry, want ...[4]int) {
	t.Helper()
	if !(state{log: got}).is(state{log: entries(want...)}) {
		t.Errorf("the log is %v, want %v", got, want)
	}
}

// P11: Start first, with the route, then a Tick a frame, with its number; the cells go on.
func TestStartAndTicks(t *testing.T) {
	h := opened(t, of(teller(t)))
	goTo(t, h, 2)
	frames(t, h, 1)
	wantState(t, h, 0, state{phase: api.In, cells: [8]uint16{0, 2, 0, 2, 0, 0, 0, 1}, log: entries([4]int{1, done, 0, 2})})
	goTo(t, h, 3)
	frames(t, h, 1)
	wantState(t, h, 0, state{phase: api.In, cells: [8]uint16{3, 2, 0, 3, 0, 0, 0, 2}, log: entries([4]int{1, done, 0, 2}, [4]int{2, done, 3, 2})})
	frames(t, h, 197)
	wantCells(t, h.Cells(0), [8]uint16{3, 199, 0, 3, 0, 0, 0, 199})
}

// P11: events wait, one a frame is handled, the first first; where none does, a Tick.
func TestOneEventAFrame(t *testing.T) {
	h := opened(t, of(code(t, list(ins(api.Push, 500), ins(api.Show), ins(api.Push, 600), ins(api.Show), ins(api.What), ins(api.Store, 0), ins(api.Arg), ins(api.Store, 1)))))
	frames(t, h, 2)
	for _, id := range []int{2, 1, 2} {
		click(t, h, id, api.OK)
	}
	for i, key := range []uint16{600, 500, 600} {
		if b := h.Box(0); len(b) != 3-i {
			t.Errorf("ahead of frame %d the box has %v", 3+i, b)
		}
		frames(t, h, 1)
		wantCells(t, h.Cells(0), [8]uint16{1, key})
	}
	if b := h.Box(0); len(b) != 0 {
		t.Errorf("a box that ran empty has %v", b)
	}
	frames(t, h, 1)
	wantCells(t, h.Cells(0), [8]uint16{3, 6})
	if b := h.Box(0); len(b) != 0 {
		t.Errorf("a Tick leaves in the box %v", b)
	}
	wantLog(t, h.Log(0), [4]int{1, done, 0, 0}, [4]int{2, done, 3, 2}, [4]int{3, done, 1, 600}, [4]int{4, done, 1, 500}, [4]int{5, done, 1, 600}, [4]int{6, done, 3, 6})
}

// P11: draws[t] for the tenant t; none where there is no such list, or it is too short; anew each frame.
func TestDraws(t *testing.T) {
	x := of(teller(t))
	away := x
	away.Routes = 14
	h := opened(t, x, away, x)
	for _, c := range []struct {
		draws       [][]uint16
		first, last [2]uint16
	}{
		{nil, [2]uint16{}, [2]uint16{}},
		{[][]uint16{{5, 6}, {7, 8}, {9, 10}}, [2]uint16{5, 6}, [2]uint16{9, 10}},
		{[][]uint16{{5, 6}, {7, 8}, {9, 10}}, [2]uint16{5, 6}, [2]uint16{9, 10}},
		{[][]uint16{{11, 12, 13}, {7}}, [2]uint16{11, 12}, [2]uint16{}},
		{[][]uint16{{14}, nil, {65535}}, [2]uint16{14, 0}, [2]uint16{65535, 0}},
		{[][]uint16{nil, nil, {}, {1, 2}, {3}, {4}}, [2]uint16{}, [2]uint16{}},
		{[][]uint16{}, [2]uint16{}, [2]uint16{}},
		{[][]uint16{nil, {1, 2}, {15, 16}, {1, 2}, {3}, {4}}, [2]uint16{}, [2]uint16{15, 16}},
	} {
		frames(t, h, 1, c.draws...)
		for who, want := range [][2]uint16{c.first, {}, c.last} {
			if l := h.Cells(who); l[4] != want[0] || l[5] != want[1] {
				t.Errorf("Frame(%v): the draws of %d are %v, want %v", c.draws, who, l[4:6], want)
			}
		}
	}
}

// P11: each tenant runs with its own Fuel.
func TestFuel(t *testing.T) {
	const loop = "\x10\xff"
	var m []api.Tenant
	for _, fuel := range []int{1, 2, 999, 1000} {
		x := of(loop)
		x.Fuel = fuel
		m = append(m, x)
	}
	h := opened(t, m...)
	frames(t, h, 1)
	for who, fuel := range []int{1, 2, 999, 1000} {
		wantLog(t, h.Log(who), [4]int{1, broke, int(api.Spent), fuel})
	}
	x := of(code(t, list(ins(api.End))))
	x.Fuel = 1
	h = opened(t, x)
	frames(t, h, 3)
	wantLog(t, h.Log(0), [4]int{1, done, 0, 0}, [4]int{2, done, 3, 2}, [4]int{3, done, 3, 3})
}

// P11: the tree is planned over the tree that was: a key that is shown again keeps its Id.
func TestTreeGoesOn(t *testing.T) {
	h := opened(t, of(code(t, list(ins(api.Draw), ins(api.Char), ins(api.Draw), ins(api.Show), ins(api.Draw), ins(api.Show), ins(api.Draw), ins(api.Show)))))
	for _, c := range []struct {
		draws []uint16
		want  []api.Node
	}{
		{[]uint16{97, 10, 20, 30}, []api.Node{{Id: 1, Key: 10, Text: "a"}, {Id: 2, Key: 20}, {Id: 3, Key: 30}}},
		{[]uint16{98, 30, 40, 10}, []api.Node{{Id: 3, Key: 30, Text: "b"}, {Id: 4, Key: 40}, {Id: 1, Key: 10}}},
		{[]uint16{8364, 20, 50, 40}, []api.Node{{Id: 2, Key: 20, Text: "\u20ac"}, {Id: 5, Key: 50}, {Id: 4, Key: 40}}},
		{[]uint16{99, 1, 2, 3}, []api.Node{{Id: 1, Key: 1, Text: "c"}, {Id: 3, Key: 2}, {Id: 6, Key: 3}}},
	} {
		frames(t, h, 1, c.draws)
		if l := told(h, 0); !(state{nodes: l.nodes}).is(state{nodes: c.want}) {
			t.Errorf("with the draws %v the tree is %v, want %v", c.draws, l.nodes, c.want)
		}
	}
}

// P11: 8 shows, and 8 others in the next frame, and again: the Ids are enough.
func TestTreeOfEight(t *testing.T) {
	var l []api.Ins
	for range 8 {
		l = append(l, ins(api.Draw), ins(api.Show))
	}
	h := opened(t, of(code(t, l)))
	for n := range 6 {
		var keys []uint16
		var want []api.Node
		for i := range 8 {
			keys = append(keys, uint16(100*n+i))
			want = append(want, api.Node{Id: uint8(1 + i + 8*(n%2)), Key: keys[i]})
		}
		frames(t, h, 1, keys)
		if s := told(h, 0); s.phase != api.In || !(state{nodes: s.nodes}).is(state{nodes: want}) {
			t.Errorf("frame %d: %v, want %v", n+1, s, want)
		}
	}
}

// P11: sends to topics that are not in Pub are logged, behind Done, in their order; the others are not.
func TestBarred(t *testing.T) {
	x := of(code(t, list(ins(api.Draw), ins(api.Send, 3), ins(api.Draw), ins(api.Send, 1), ins(api.Draw), ins(api.Send, 3), ins(api.Draw), ins(api.Send, 0))))
	x.Pub = 2
	h := opened(t, x)
	frames(t, h, 1, []uint16{65535, 8, 9, 10})
	frames(t, h, 1, []uint16{1, 2, 3})
	wantLog(t, h.Log(0), [4]int{1, done, 0, 0}, [4]int{1, barred, 3, 65535}, [4]int{1, barred, 3, 9}, [4]int{1, barred, 0, 10}, [4]int{2, done, 3, 2}, [4]int{2, barred, 3, 1}, [4]int{2, barred, 3, 3}, [4]int{2, barred, 0, 0})
	if b := h.Box(0); len(b) != 0 {
		t.Errorf("what was barred is in the box: %v", b)
	}
}

// P11: of a run that breaks nothing is sent, so that nothing is barred.
func TestNothingBarredOfBroken(t *testing.T) {
	h := opened(t, of(code(t, list(ins(api.Push, 7), ins(api.Send, 1), ins(api.Drop)))))
	frames(t, h, 1)
	wantLog(t, h.Log(0), [4]int{1, broke, int(api.Pile), 3})
}

// P11: each fault, with its steps.
func TestEachFault(t *testing.T) {
	var long, many []api.Ins
	for range 7 {
		long = append(long, ins(api.Push, 65), ins(api.Char))
	}
	for range 5 {
		many = append(many, ins(api.Push, 65), ins(api.Send, 2))
	}
	for _, c := range []struct {
		program string
		fault   uint8
		steps   int
	}{
		{"\x10\xff", api.Spent, 1000},
		{"\x17", api.Pile, 1},
		{code(t, list(ins(api.Push, 1), ins(api.Push, 0), ins(api.Div))), api.Zero, 3},
		{code(t, long), api.Long, 14},
		{code(t, many), api.Many, 10},
		{code(t, list(ins(api.Push, 1), ins(api.Show), ins(api.Push, 1), ins(api.Show))), api.Twice, 4},
	} {
		h := opened(t, of(c.program), of("\x00"))
		frames(t, h, 1)
		wantState(t, h, 0, state{phase: api.Held, nodes: []api.Node{{Id: 1, Key: 65535, Text: "!"}}, log: entries([4]int{1, broke, int(c.fault), c.steps})})
		wantState(t, h, 1, state{phase: api.In, log: entries([4]int{1, done, 0, 0})})
	}
}

// P11: 200 frames, and no 201st; the other calls go on.
func TestTwoHundredFrames(t *testing.T) {
	h := opened(t, of(shower(t)), of(breaker))
	frames(t, h, 200)
	before := everyone(h)
	for range 3 {
		if e := h.Frame([][]uint16{{1}, {2}}); e != api.ErrDone {
			t.Errorf("frame 201: %d, want ErrDone", e)
		}
	}
	if l := everyone(h); !same(l, before) {
		t.Errorf("P1: behind a frame that was too many: %v, want %v", l, before)
	}
	if l := h.Log(0); len(l) != 200 || l[199] != (api.Entry{Frame: 200, Kind: api.Done, A: 3, B: 200}) {
		t.Errorf("the log has %d entries", len(l))
	}
	goTo(t, h, 1)
	click(t, h, 1, api.OK)
	wantBox(t, h.Box(0), 10)
	if e := h.Frame(nil); e != api.ErrDone {
		t.Errorf("frame 201: %d, want ErrDone", e)
	}
	wantBox(t, h.Box(0), 10)
}
