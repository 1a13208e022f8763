package host_test

import (
	"math/rand"
	"slices"
	"testing"

	"hostel/api"
	"hostel/host"
)

// reach: of each tenant, by how many sends what t does can come to it: 0, if never; t itself is not asked for.
func reach(m []api.Tenant, t int) []int {
	steps := make([]int, len(m))
	for range m {
		for from := range m {
			for to := range m {
				linked := (from == t || steps[from] > 0) && to != t && m[from].Pub&m[to].Sub != 0
				if far := steps[from] + 1; linked && (steps[to] == 0 || far < steps[to]) {
					steps[to] = far
				}
			}
		}
	}
	return steps
}

// P14: what is reached, in the words of the document.
func TestReach(t *testing.T) {
	x := func(pub, sub uint8) api.Tenant { return api.Tenant{Pub: pub, Sub: sub} }
	for _, c := range []struct {
		m    []api.Tenant
		t    int
		want []int
	}{
		{[]api.Tenant{x(15, 15)}, 0, []int{0}},
		{[]api.Tenant{x(1, 0), x(2, 1), x(4, 2), x(0, 4)}, 0, []int{0, 1, 2, 3}},
		{[]api.Tenant{x(1, 0), x(2, 1), x(4, 2), x(0, 4)}, 2, []int{0, 0, 0, 1}},
		{[]api.Tenant{x(0, 4), x(4, 2), x(2, 1), x(1, 0)}, 3, []int{3, 2, 1, 0}},
		{[]api.Tenant{x(1, 0), x(2, 1), x(4, 2), x(0, 5)}, 0, []int{0, 1, 2, 1}},
		{[]api.Tenant{x(6, 15), x(8, 1), x(1, 9), x(9, 0)}, 0, []int{0, 0, 0, 0}},
		{[]api.Tenant{x(6, 15), x(9, 9), x(1, 9), x(9, 2)}, 0, []int{0, 2, 2, 1}},
	} {
		if got := reach(c.m, c.t); !slices.Equal(got, c.want) {
			t.Errorf("of %+v is reached from %d: %v, want %v", c.m, c.t, got, c.want)
		}
	}
}

// twins: two hosts with two scripts that differ only in what P14 names of one tenant, t.
type twins struct {
	a, b    *host.Host
	m       []api.Tenant
	t       int
	reached []int
	differ  []bool // which tenants were not the same in both behind some frame
	heard   bool   // whether one that is not reached got a Message
}

func twinsOf(t *testing.T, m []api.Tenant, who int, other api.Tenant) *twins {
	t.Helper()
	n := slices.Clone(m)
	n[who].Program, n[who].Fuel, n[who].Back = other.Program, other.Fuel, other.Back
	return &twins{a: opened(t, m...), b: opened(t, n...), m: m, t: who, reached: reach(m, who), differ: make([]bool, len(m))}
}

// each does one thing with both.
func (w *twins) each(do func(h *host.Host)) {
	do(w.a)
	do(w.b)
}

// clickOwn: clicks at any ids of t, in none of the two scripts, or in one, or in both.
func (w *twins) clickOwn(r *rand.Rand) {
	w.each(func(h *host.Host) {
		for range r.Intn(9) {
			h.Click(100*w.t + r.Intn(100))
		}
		for _, x := range h.Tree(w.t) {
			if r.Intn(2) == 0 {
				h.Click(100*w.t + int(x.Id))
			}
		}
	})
}

// clickOthers: one click, the same in both, at an id that is not of t.
func (w *twins) clickOthers(t *testing.T, r *rand.Rand) {
	t.Helper()
	who := r.Intn(5)
	id := 100*who + r.Intn(12)
	if l := w.a.Tree(who); len(l) > 0 && r.Intn(8) > 0 {
		id = 100*who + int(l[r.Intn(len(l))].Id)
	}
	if who == w.t {
		return
	}
	a, b := w.a.Click(id), w.b.Click(id)
	if who < len(w.m) && w.reached[who] == 0 && a != b {
		t.Fatalf("Click(%d) = %d and %d", id, a, b)
	}
}

// frame: a frame with the same draws in both, but for those of t.
func (w *twins) frame(t *testing.T, r *rand.Rand) {
	t.Helper()
	draws := someDraws(r)
	w.each(func(h *host.Host) {
		l := slices.Clone(draws)
		for len(l) <= w.t && r.Intn(2) == 0 {
			l = append(l, nil)
		}
		if w.t < len(l) {
			l[w.t] = slices.Concat(someDraws(r)...)
		}
		h.Frame(l)
	})
	w.compare(t)
}

// compare: every other tenant that is not reached is the same in both.
func (w *twins) compare(t *testing.T) {
	t.Helper()
	for who := range w.m {
		a, b := told(w.a, who), told(w.b, who)
		if who != w.t && w.reached[who] == 0 {
			if !a.is(b) {
				t.Fatalf("of %+v with another tenant %d the tenant %d, which is not reached, has %v and %v", w.m, w.t, who, a, b)
			}
			w.heard = w.heard || slices.ContainsFunc(a.box, func(e api.Event) bool { return e.What == api.Message })
		}
		w.differ[who] = w.differ[who] || !a.is(b)
	}
}

// script: many frames, and what there is between them.
func (w *twins) script(t *testing.T, r *rand.Rand, n int) {
	t.Helper()
	for range n {
		if r.Intn(9) == 0 {
			route := uint8(r.Intn(5))
			w.each(func(h *host.Host) { h.Navigate(route) })
		}
		for range r.Intn(4) {
			w.clickOthers(t, r)
			w.clickOwn(r)
		}
		w.frame(t, r)
	}
}

// wild: tenants that do what they can to be felt: by what they send, show, draw, burn or break.
func wild(t *testing.T, r *rand.Rand) api.Tenant {
	send := func(k int) []api.Ins { return list(ins(api.Draw), ins(api.Send, k)) }
	program := []string{
		quiet,
		breaker,
		"\x10\xff",
		code(t, send(0), send(1), send(2), send(3)),
		code(t, send(r.Intn(4)), send(r.Intn(4)), send(r.Intn(4)), send(r.Intn(4))),
		code(t, send(0), send(1), send(2), send(3), list(ins(api.Draw), ins(api.If, 1), ins(api.Drop))),
		code(t, list(ins(api.Arg), ins(api.Show), ins(api.Push, 65535), ins(api.Show)), send(r.Intn(4))),
		someProgram(t, r),
	}[r.Intn(8)]
	return api.Tenant{Program: program, Fuel: []int{1, 3, 9, 20, 1000}[r.Intn(5)], Back: 1 + r.Intn(8)}
}

// P14: one tenant, one that is reached from it straight, one that is so by way of that one, and one that is not, in all orders.
func TestApartInAllOrders(t *testing.T) {
	r := rand.New(rand.NewSource(5))
	// It passes on what it is given, and is clicked and drawn for itself.
	busy := func(topics ...int) string {
		l := list(ins(api.Load, 0), ins(api.Arg), ins(api.Add), ins(api.Copy), ins(api.Store, 0), ins(api.Show), ins(api.Draw), ins(api.Store, 1))
		for _, k := range topics {
			l = append(l, ins(api.Load, 0), ins(api.Send, k))
		}
		return code(t, l)
	}
	var differ [4]int
	for order := range 24 {
		for range 10 {
			m, places := make([]api.Tenant, 4), slices.Clone([]int{0, 1, 2, 3})
			for i, left := 0, order; i < 4; i++ {
				j := i + left%(4-i)
				left /= 4 - i
				places[i], places[j] = places[j], places[i]
			}
			// The one that is apart gets the topic 3, to which all try to send and none may, and sends the topic 0, which all get.
			m[places[0]] = linked(busy(3, 1), 2, 15, 1)
			m[places[1]] = linked(busy(3, 2, 0), 4, 3, 2)
			m[places[2]] = linked(busy(3, 1, 3), 0, 5, 3)
			m[places[3]] = linked(busy(0, 0), 1, 8, 2)
			w := twinsOf(t, m, places[0], wild(t, r))
			if got := w.reached; got[places[1]] != 1 || got[places[2]] != 2 || got[places[3]] != 0 {
				t.Fatalf("reached: %v", got)
			}
			w.script(t, r, 40)
			for i, who := range places {
				if w.differ[who] {
					differ[i]++
				}
			}
		}
	}
	if differ[0] < 100 || differ[1] < 50 || differ[2] < 50 || differ[3] != 0 {
		t.Errorf("of 240 pairs so many differ: the tenant %d, reached straight %d, by way of another %d, apart %d", differ[0], differ[1], differ[2], differ[3])
	}
}

// P14: two tenants that hear each other, and send to the one that is another in both: what it does is not felt by them.
func TestTwoThatTalkApart(t *testing.T) {
	r := rand.New(rand.NewSource(6))
	talk := code(t, list(ins(api.Load, 0), ins(api.Arg), ins(api.Add), ins(api.Store, 0), ins(api.Load, 0), ins(api.Send, 0), ins(api.Draw), ins(api.Send, 1), ins(api.Arg), ins(api.Show)))
	for who := range 3 {
		heard := 0
		for range 60 {
			m := slices.Insert([]api.Tenant{linked(talk, 3, 3, 1), linked(talk, 3, 3, 2)}, who, linked(talk, 12, 15, 1))
			w := twinsOf(t, m, who, wild(t, r))
			w.script(t, r, 60)
			if w.heard {
				heard++
			}
		}
		if heard != 60 {
			t.Errorf("the two did not hear each other in %d of 60", 60-heard)
		}
	}
}

// P14: any tenants, of which any is another.
func TestApart(t *testing.T) {
	r := rand.New(rand.NewSource(7))
	var pairs, apart, heard, differ [4]int
	for range 1500 {
		m := someTenants(t, r)
		who := r.Intn(len(m))
		w := twinsOf(t, m, who, wild(t, r))
		w.script(t, r, []int{10, 60, 201}[r.Intn(3)])
		for u, far := range w.reached {
			switch {
			case u != who && far == 0:
				apart[u]++
				if w.heard {
					heard[u]++
				}
			case u != who:
				pairs[far]++
				if w.differ[u] {
					differ[far]++
				}
			}
		}
	}
	for u := range 4 {
		if apart[u] < 100 || heard[u] < 5 {
			t.Errorf("the hosts of this test are too much alike: the tenant %d was apart %d times, %d times in a host with messages of such", u, apart[u], heard[u])
		}
	}
	for far, least := range []int{0, 20, 2} {
		if differ[far] < least {
			t.Errorf("the hosts of this test are too much alike: of %d that are %d sends away %d differ", pairs[far], far, differ[far])
		}
	}
}
