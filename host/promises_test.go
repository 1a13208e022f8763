package host_test

import (
	"fmt"
	"math"
	"math/rand"
	"slices"
	"testing"

	"hostel/api"
	"hostel/host"
)

// P13: of a t that is no tenant there is nothing.
func TestNoTenant(t *testing.T) {
	for n := 1; n <= 4; n++ {
		h := opened(t, slices.Repeat([]api.Tenant{of(shower(t))}, n)...)
		frames(t, h, 1)
		click(t, h, 1, api.OK)
		for _, who := range []int{-1, -4, n, n + 1, 4, 256, 1 << 32, -1 << 32, math.MinInt, math.MaxInt} {
			if s := told(h, who); !s.is(state{}) || s.nodes != nil || s.box != nil || s.log != nil {
				t.Errorf("of %d tenants the number %d has %v", n, who, s)
			}
		}
		for who := range n {
			if s := told(h, who); s.phase != api.In || len(s.nodes) != 3 || len(s.log) != 1 {
				t.Errorf("of %d tenants the number %d has %v", n, who, s)
			}
		}
	}
}

// somePart: a part of a program, which leaves the pile as it was if it does not break.
func somePart(r *rand.Rand) []api.Ins {
	cell, topic := r.Intn(8), r.Intn(4)
	source := []api.Ins{ins(api.What), ins(api.Arg), ins(api.From), ins(api.Route), ins(api.Draw), ins(api.Load, cell), ins(api.Push, r.Intn(6)), ins(api.Push, 65530+r.Intn(6))}[r.Intn(8)]
	switch r.Intn(12) {
	case 0, 1:
		return list(ins(api.Load, cell), source, ins(api.Add), ins(api.Store, cell))
	case 2:
		return list(source, ins(api.Store, cell))
	case 3, 4:
		return list(ins(api.Push, 97+r.Intn(3)), ins(api.Char))
	case 5:
		return list(source, ins(api.Char))
	case 6, 7:
		return list(source, ins(api.Show))
	case 8, 9:
		return list(source, ins(api.Send, topic))
	case 10:
		return list(source, ins(api.If, 2), ins(api.Push, r.Intn(9)), ins(api.Show))
	}
	return [][]api.Ins{
		list(source, ins(api.If, 1), ins(api.Drop)),
		list(ins(api.Push, 7), ins(api.Draw), ins(api.Div), ins(api.Store, cell)),
		list(source, ins(api.If, 1), ins(api.Jump, -1)),
	}[r.Intn(3)]
}

// steadySends: a part of a program that sends, and never breaks.
func steadySends(r *rand.Rand) []api.Ins {
	l := list(ins(api.Load, 0), ins(api.Push, 1), ins(api.Add), ins(api.Store, 0))
	for range 1 + r.Intn(4) {
		l = append(l, []api.Ins{ins(api.What), ins(api.Arg), ins(api.From), ins(api.Draw), ins(api.Load, 0)}[r.Intn(5)], ins(api.Send, r.Intn(4)))
	}
	if r.Intn(2) == 0 {
		l = slices.Concat(list(ins(api.Draw), ins(api.If, len(l))), l)
	}
	return l
}

func someProgram(t *testing.T, r *rand.Rand) string {
	var l []api.Ins
	if r.Intn(2) == 0 {
		l = steadySends(r)
		return code(t, l, [][]api.Ins{nil, list(ins(api.Arg), ins(api.Show)), somePart(r)}[r.Intn(3)])
	}
	for range 1 + r.Intn(8) {
		l = append(l, somePart(r)...)
	}
	return code(t, l)
}

// someTopics: none of the topics, or some, or all.
func someTopics(r *rand.Rand) uint8 {
	return []uint8{0, 15, uint8(r.Intn(16)), uint8(r.Intn(16)), uint8(1 << r.Intn(4))}[r.Intn(5)]
}

func someTenants(t *testing.T, r *rand.Rand) []api.Tenant {
	var m []api.Tenant
	for range []int{1, 2, 3, 4, 4}[r.Intn(5)] {
		x := api.Tenant{Program: someProgram(t, r), Fuel: []int{4, 15, 40, 40, 1000, 1000}[r.Intn(6)], Routes: uint8(r.Intn(16)), Pub: someTopics(r), Sub: someTopics(r), Share: 1 + r.Intn(3), Back: 1 + r.Intn(8)}
		if r.Intn(3) > 0 {
			x.Routes = 15
		}
		m = append(m, x)
	}
	return m
}

func someDraws(r *rand.Rand) [][]uint16 {
	var draws [][]uint16
	for range r.Intn(6) {
		var l []uint16
		for range r.Intn(5) {
			l = append(l, []uint16{0, 1, 2, 97, 98, 65535}[r.Intn(6)])
		}
		draws = append(draws, l)
	}
	return draws
}

// someId: an id for a click, often one at which there is a node.
func someId(r *rand.Rand, h *host.Host) int {
	who := r.Intn(4)
	if l := h.Tree(who); len(l) > 0 && r.Intn(8) > 0 {
		return 100*who + int(l[r.Intn(len(l))].Id)
	}
	return []int{r.Intn(500) - 50, 100*who + r.Intn(20), math.MinInt, math.MaxInt}[r.Intn(4)]
}

// act: one call, any, of a host and of its model, which answer the same.
func act(t *testing.T, r *rand.Rand, h *host.Host, a *model) {
	t.Helper()
	switch n := r.Intn(20); {
	case n == 0:
		route := uint8(r.Intn(5))
		if got, want := h.Navigate(route), a.navigate(route); got != want {
			t.Fatalf("Navigate(%d) = %d, want %d", route, got, want)
		}
	case n < 12:
		id := someId(r, h)
		if got, want := h.Click(id), a.click(id); got != want {
			t.Fatalf("Click(%d) = %d, want %d", id, got, want)
		}
	default:
		draws := someDraws(r)
		if got, want := h.Frame(draws), a.frame(draws); got != want {
			t.Fatalf("Frame(%v) = %d, want %d", draws, got, want)
		}
	}
}

// P1, P9 to P13: many hosts, through many calls, are as the document says.
func TestManyHosts(t *testing.T) {
	r := rand.New(rand.NewSource(1))
	seen := map[string]int{}
	for range 400 {
		m := someTenants(t, r)
		h, a := opened(t, m...), modelOf(m)
		for range []int{30, 600}[r.Intn(2)] {
			act(t, r, h, a)
			if got, want := everyone(h), a.everyone(); !same(got, want) {
				t.Fatalf("the tenants %+v in frame %d: %v, want %v", m, a.n, got, want)
			}
		}
		for who, s := range everyone(h) {
			seen[fmt.Sprint("phase ", s.phase)]++
			for _, x := range s.box {
				seen[fmt.Sprint("event ", x.What)]++
				seen[fmt.Sprint("of ", who-1, " by ", int(x.By)-1)]++
			}
			for _, x := range s.log {
				seen[fmt.Sprint("entry ", x.Kind)]++
				seen[fmt.Sprint("entry ", x.Kind, " with ", min(x.A, 9))]++
			}
		}
	}
	for _, what := range []string{"phase 0", "phase 1", "phase 2", "event 1", "event 2", "entry 0 with 0", "entry 0 with 1", "entry 0 with 2", "entry 0 with 3", "entry 1", "entry 2 with 1", "entry 2 with 2", "entry 2 with 3", "entry 2 with 6", "entry 3 with 0", "entry 3 with 1", "entry 3 with 2", "entry 3 with 3"} {
		if seen[what] < 50 {
			t.Errorf("the hosts of this test are too much alike: %s only %d times", what, seen[what])
		}
	}
	for to := range 4 {
		for by := range 4 {
			if n := seen[fmt.Sprint("of ", to, " by ", by)]; to != by && n < 5 {
				t.Errorf("the hosts of this test are too much alike: messages to %d by %d only %d times", to, by, n)
			}
		}
	}
}

// scribble: writes into a list and the spare room behind it.
func scribble[T any](l []T, v T) {
	l = l[:cap(l)]
	for i := range l {
		l[i] = v
	}
}

// P2: New keeps no list, writes into none, and reads no further than its list.
func TestManifestIsTheCallers(t *testing.T) {
	wrong := api.Tenant{Program: "\x1c", Fuel: -1, Routes: 99}
	room := []api.Tenant{of(shower(t)), of(teller(t)), wrong, wrong}
	before := slices.Clone(room)
	h, e := host.New(room[:2])
	if e != api.OK || !slices.Equal(room, before) {
		t.Fatalf("New: %d, and the list and its spare room are %v", e, room)
	}
	a := modelOf(before[:2])
	for n := range 5 {
		frames(t, h, 1)
		a.frame(nil)
		scribble(room, api.Tenant{Program: "\x1b", Fuel: 1, Routes: uint8(n), Share: 1, Back: 1})
		if got, want := everyone(h), a.everyone(); !same(got, want) {
			t.Errorf("when the caller wrote into the tenants: %v, want %v", got, want)
		}
	}
}

// P2: Frame keeps no draws, writes into none, and reads no further than its lists.
func TestDrawsAreTheCallers(t *testing.T) {
	h := opened(t, of(teller(t)), of(teller(t)))
	for range 3 {
		numbers := []uint16{1, 2, 3, 4, 5, 6}
		lists := [][]uint16{numbers[:1], numbers[2:4], numbers, numbers}
		frames(t, h, 1, lists[:1]...)
		if !slices.Equal(numbers, []uint16{1, 2, 3, 4, 5, 6}) || len(lists[0]) != 1 || len(lists[1]) != 2 || len(lists[2]) != 6 || len(lists[3]) != 6 {
			t.Fatalf("behind a frame the draws are %v, %v", numbers, lists)
		}
		before := everyone(h)
		if c := h.Cells(0); c[4] != 1 || c[5] != 0 {
			t.Errorf("draws from the spare room: %v", c)
		}
		if c := h.Cells(1); c[4] != 0 || c[5] != 0 {
			t.Errorf("draws from the spare room: %v", c)
		}
		scribble(numbers, 99)
		scribble(lists, nil)
		if l := everyone(h); !same(l, before) {
			t.Errorf("when the caller wrote into the draws: %v, want %v", l, before)
		}
	}
}

// P2: what a host tells is the caller's, who may write into it and its spare room.
func TestAnswersAreTheCallers(t *testing.T) {
	r := rand.New(rand.NewSource(2))
	for range 60 {
		m := someTenants(t, r)
		h, a := opened(t, m...), modelOf(m)
		for range 120 {
			act(t, r, h, a)
			for _, s := range everyone(h) {
				scribble(s.nodes, api.Node{Id: 99, Key: 99, Text: "abcdefg"})
				scribble(s.box, api.Event{What: 99, Arg: 99})
				scribble(s.log, api.Entry{Frame: 99})
			}
			if got, want := everyone(h), a.everyone(); !same(got, want) {
				t.Fatalf("when the caller wrote into what was told: %v, want %v", got, want)
			}
		}
	}
}

// P2: no later call changes what a host told.
func TestAnswersStay(t *testing.T) {
	r := rand.New(rand.NewSource(3))
	for range 40 {
		m := someTenants(t, r)
		h, a := opened(t, m...), modelOf(m)
		var kept, copies [][]state
		for range 120 {
			act(t, r, h, a)
			kept = append(kept, everyone(h))
			var l []state
			for _, s := range everyone(h) {
				s.nodes, s.box, s.log = slices.Clone(s.nodes), slices.Clone(s.box), slices.Clone(s.log)
				l = append(l, s)
			}
			copies = append(copies, l)
		}
		for i := range kept {
			if !same(kept[i], copies[i]) {
				t.Fatalf("told behind call %d: %v, and later that is %v", i, copies[i], kept[i])
			}
		}
	}
}

// P2: hosts know nothing of each other, though they are made of one list.
func TestHostsApart(t *testing.T) {
	r := rand.New(rand.NewSource(4))
	for range 40 {
		m := someTenants(t, r)
		var hosts []*host.Host
		var models []*model
		for range 3 {
			hosts = append(hosts, opened(t, m...))
			models = append(models, modelOf(m))
		}
		for range 300 {
			i := r.Intn(3)
			act(t, r, hosts[i], models[i])
			for j := range hosts {
				if got, want := everyone(hosts[j]), models[j].everyone(); !same(got, want) {
					t.Fatalf("host %d behind a call of host %d: %v, want %v", j, i, got, want)
				}
			}
		}
	}
}
