package host_test

import (
	"testing"

	"hostel/api"
)

// P11: a tenant that goes Out keeps its log and nothing else; it comes In as a new one.
func TestOutAndIn(t *testing.T) {
	x := of(code(t, list(ins(api.Draw), ins(api.Show), ins(api.Load, 6), ins(api.Arg), ins(api.Add), ins(api.Store, 6))))
	x.Routes = 9
	h := opened(t, x, of("\x00"))
	frames(t, h, 2, []uint16{50})
	frames(t, h, 1, []uint16{60})
	click(t, h, 2, api.OK)
	click(t, h, 2, api.OK)
	log := entries([4]int{1, done, 0, 0}, [4]int{2, done, 3, 2}, [4]int{3, done, 3, 3})
	wantState(t, h, 0, state{phase: api.In, cells: [8]uint16{6: 5}, nodes: []api.Node{{Id: 2, Key: 60}}, box: []api.Event{{What: api.Click, Arg: 60}, {What: api.Click, Arg: 60}}, log: log})
	goTo(t, h, 1)
	for range 3 {
		frames(t, h, 1, []uint16{70})
		wantState(t, h, 0, state{log: log})
	}
	goTo(t, h, 3)
	frames(t, h, 1, []uint16{80})
	log = append(log, api.Entry{Frame: 7, Kind: api.Done, A: 0, B: 3})
	wantState(t, h, 0, state{phase: api.In, cells: [8]uint16{6: 3}, nodes: []api.Node{{Id: 1, Key: 80}}, log: log})
	wantLog(t, h.Log(1), [4]int{1, done, 0, 0}, [4]int{2, done, 3, 2}, [4]int{3, done, 3, 3}, [4]int{4, done, 3, 4}, [4]int{5, done, 3, 5}, [4]int{6, done, 3, 6}, [4]int{7, done, 3, 7})
}

// P11: a tenant that is on the page at the next route too stays as it is.
func TestStaysIn(t *testing.T) {
	x := of(shower(t))
	x.Routes = 6
	h := opened(t, x)
	goTo(t, h, 1)
	frames(t, h, 1)
	click(t, h, 3, api.OK)
	goTo(t, h, 2)
	frames(t, h, 1)
	wantLog(t, h.Log(0), [4]int{1, done, 0, 1}, [4]int{2, done, 1, 30})
	frames(t, h, 1)
	wantLog(t, h.Log(0), [4]int{1, done, 0, 1}, [4]int{2, done, 1, 30}, [4]int{3, done, 3, 3})
}

// P11: what a fault leaves: the cells of the run before, a tree with its sign, an empty box.
func TestWhatHeldLeaves(t *testing.T) {
	h := opened(t, of(code(t, list(ins(api.Push, 1), ins(api.Draw), ins(api.Show), ins(api.Push, 9), ins(api.Store, 0), ins(api.Draw), ins(api.Div), ins(api.Store, 1)))))
	frames(t, h, 1, []uint16{40, 1})
	frames(t, h, 1, []uint16{41, 1})
	for range 4 {
		click(t, h, 2, api.OK)
	}
	frames(t, h, 1, []uint16{42, 0})
	wantState(t, h, 0, state{phase: api.Held, cells: [8]uint16{9, 1}, nodes: []api.Node{{Id: 1, Key: 65535, Text: "!"}}, log: entries([4]int{1, done, 0, 0}, [4]int{2, done, 3, 2}, [4]int{3, broke, int(api.Zero), 7})})
	frames(t, h, 1, []uint16{43, 1})
	wantState(t, h, 0, state{phase: api.In, cells: [8]uint16{9, 1}, nodes: []api.Node{{Id: 1, Key: 43}}, log: entries([4]int{1, done, 0, 0}, [4]int{2, done, 3, 2}, [4]int{3, broke, int(api.Zero), 7}, [4]int{4, done, 0, 0})})
}

// P11: the sign's node has the Id of a node of the tenant's own with the key 65535, and else one that was free.
func TestIdOfSign(t *testing.T) {
	program := code(t, list(ins(api.Push, 7), ins(api.Show), ins(api.Draw), ins(api.Show), ins(api.Push, 1), ins(api.Draw), ins(api.Div)))
	for _, c := range []struct {
		key uint16
		id  uint8
	}{{65535, 2}, {8, 3}} {
		h := opened(t, of(program))
		frames(t, h, 1, []uint16{c.key, 1})
		frames(t, h, 1, []uint16{c.key, 0})
		if l := h.Tree(0); len(l) != 1 || l[0] != (api.Node{Id: c.id, Key: 65535, Text: "!"}) {
			t.Errorf("with the key %d the sign is %v", c.key, l)
		}
	}
}

// P11: again and again: the wait is Back, doubled each time, until it was doubled 4 times.
func TestWaitDoubles(t *testing.T) {
	for back := 1; back <= 8; back++ {
		x := of(breaker)
		x.Back = back
		h := opened(t, x, of("\x00"))
		next, wait := 1, back
		var log []api.Entry
		for n := 1; n <= 200; n++ {
			frames(t, h, 1)
			if n == next {
				log = append(log, api.Entry{Frame: n, Kind: api.Broke, A: uint16(api.Pile), B: 1})
				next += wait
				wait = min(2*wait, 16*back)
			}
			wantState(t, h, 0, state{phase: api.Held, nodes: []api.Node{{Id: 1, Key: 65535, Text: "!"}}, log: log})
		}
		if len(h.Log(1)) != 200 {
			t.Errorf("another tenant was Held too: %v", h.Log(1))
		}
	}
}

// P11: good frames, and the way Out by a route, leave the count of how often it was Held.
func TestCountOfHeldStays(t *testing.T) {
	x := of(code(t, list(ins(api.Push, 1), ins(api.Draw), ins(api.Div), ins(api.Drop))))
	x.Routes = 1
	h := opened(t, x)
	bad, good := []uint16{0}, []uint16{1}
	for held, wait := range []int{1, 2, 4, 8, 16, 16, 16} {
		frames(t, h, 1, bad)
		for n := range wait {
			if h.Phase(0) != api.Held {
				t.Errorf("held %d times before: %d frames on the phase is %d", held, n, h.Phase(0))
			}
			frames(t, h, 1, good)
		}
		if h.Phase(0) != api.In {
			t.Errorf("held %d times before: %d frames on the phase is %d", held, wait, h.Phase(0))
		}
		frames(t, h, 2, good)
		goTo(t, h, 2)
		frames(t, h, 1, good)
		if h.Phase(0) != api.Out {
			t.Errorf("at another route the phase is %d", h.Phase(0))
		}
		goTo(t, h, 0)
		frames(t, h, 1, good)
	}
}

// P11: each tenant has a count of its own.
func TestCountsApart(t *testing.T) {
	x := of(code(t, list(ins(api.Push, 1), ins(api.Draw), ins(api.Div), ins(api.Drop))))
	h := opened(t, x, x)
	frames(t, h, 1, []uint16{0}, []uint16{1})
	frames(t, h, 1, []uint16{0}, []uint16{0})
	frames(t, h, 1, []uint16{1}, []uint16{1})
	if h.Phase(0) != api.Held || h.Phase(1) != api.In {
		t.Errorf("one was Held twice, the other once: %d and %d", h.Phase(0), h.Phase(1))
	}
}

// P11: a route does not end a hold; when it ends at a route without the tenant, the tenant is Out.
func TestHeldAndAway(t *testing.T) {
	x := of(breaker)
	x.Routes = 1
	x.Back = 3
	h := opened(t, x)
	frames(t, h, 1)
	held := told(h, 0)
	for _, route := range []uint8{1, 0} {
		goTo(t, h, route)
		frames(t, h, 1)
		wantState(t, h, 0, held)
	}
	goTo(t, h, 2)
	for range 3 {
		frames(t, h, 1)
		wantState(t, h, 0, state{log: held.log})
	}
	goTo(t, h, 0)
	frames(t, h, 1)
	held.log = append(held.log, api.Entry{Frame: 7, Kind: api.Broke, A: uint16(api.Pile), B: 1})
	wantState(t, h, 0, held)
	frames(t, h, 5)
	wantState(t, h, 0, held)
	frames(t, h, 1)
	if l := h.Log(0); len(l) != 3 || l[2].Frame != 13 {
		t.Errorf("held in frame 7 a second time: the log is %v", l)
	}
}

// P11: the shortest hold: In again in the next frame, with a new Start.
func TestShortestHold(t *testing.T) {
	h := opened(t, of(code(t, list(ins(api.Push, 1), ins(api.Draw), ins(api.Div), ins(api.Store, 0)))))
	frames(t, h, 1)
	frames(t, h, 1, []uint16{2})
	wantState(t, h, 0, state{phase: api.In, log: entries([4]int{1, broke, int(api.Zero), 3}, [4]int{2, done, 0, 0})})
}

// P11: the example of the document.
func TestExampleOfHeld(t *testing.T) {
	h := opened(t, api.Tenant{Program: "\x17", Fuel: 9, Routes: 1, Share: 1, Back: 2})
	sign := []api.Node{{Id: 1, Key: 65535, Text: "!"}}
	frames(t, h, 1)
	wantState(t, h, 0, state{phase: api.Held, nodes: sign, log: entries([4]int{1, broke, 2, 1})})
	frames(t, h, 1)
	wantState(t, h, 0, state{phase: api.Held, nodes: sign, log: entries([4]int{1, broke, 2, 1})})
	for range 4 {
		frames(t, h, 1)
		wantState(t, h, 0, state{phase: api.Held, nodes: sign, log: entries([4]int{1, broke, 2, 1}, [4]int{3, broke, 2, 1})})
	}
	frames(t, h, 1)
	wantState(t, h, 0, state{phase: api.Held, nodes: sign, log: entries([4]int{1, broke, 2, 1}, [4]int{3, broke, 2, 1}, [4]int{7, broke, 2, 1})})
}
