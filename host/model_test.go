package host_test

import (
	"slices"
	"testing"

	"hostel/api"
	"hostel/host"
	"hostel/tree"
	"hostel/vm"
)

// What the document says, written down once more with all of Go: the tests hold the package against it.

// ins: an instruction, with its operand if it has one.
func ins(op uint8, a ...int) api.Ins {
	x := api.Ins{Op: op}
	if len(a) > 0 {
		x.A = a[0]
	}
	return x
}

// code: the bytes of a program.
func code(t *testing.T, parts ...[]api.Ins) string {
	t.Helper()
	s, e := vm.Encode(slices.Concat(parts...))
	if e != api.OK {
		t.Fatalf("Encode(%v): %d", parts, e)
	}
	return s
}

// list: instructions as a part of a program.
func list(l ...api.Ins) []api.Ins { return l }

// of: a tenant with this program that is on the page at every route, and may do what a tenant may at least.
func of(program string) api.Tenant {
	return api.Tenant{Program: program, Fuel: 1000, Routes: 15, Share: 1, Back: 1}
}

// opened: a host for these tenants.
func opened(t *testing.T, m ...api.Tenant) *host.Host {
	t.Helper()
	h, e := host.New(m)
	if h == nil || e != api.OK {
		t.Fatalf("New(%+v) = %v, %d, want a host", m, h, e)
	}
	return h
}

// frames: n frames, all with these draws.
func frames(t *testing.T, h *host.Host, n int, draws ...[]uint16) {
	t.Helper()
	for range n {
		if e := h.Frame(draws); e != api.OK {
			t.Fatalf("Frame(%v) = %d", draws, e)
		}
	}
}

// goTo: a route that there is.
func goTo(t *testing.T, h *host.Host, route uint8) {
	t.Helper()
	if e := h.Navigate(route); e != api.OK {
		t.Fatalf("Navigate(%d) = %d", route, e)
	}
}

// click: a click that comes to what is wanted.
func click(t *testing.T, h *host.Host, id int, want api.Errno) {
	t.Helper()
	if e := h.Click(id); e != want {
		t.Errorf("Click(%d) = %d, want %d", id, e, want)
	}
}

// state: what P13 tells of a tenant.
type state struct {
	phase uint8
	cells [8]uint16
	nodes []api.Node
	box   []api.Event
	log   []api.Entry
}

// everyone: the states of the numbers -1 to 4, among which are all tenants that there can be.
func everyone(h *host.Host) []state {
	var l []state
	for t := -1; t <= 4; t++ {
		l = append(l, told(h, t))
	}
	return l
}

func told(h *host.Host, t int) state {
	return state{h.Phase(t), h.Cells(t), h.Tree(t), h.Box(t), h.Log(t)}
}

func (s state) is(o state) bool {
	return s.phase == o.phase && s.cells == o.cells && slices.Equal(s.nodes, o.nodes) && slices.Equal(s.box, o.box) && slices.Equal(s.log, o.log)
}

func same(a, b []state) bool { return slices.EqualFunc(a, b, state.is) }

func wantState(t *testing.T, h *host.Host, who int, want state) {
	t.Helper()
	if s := told(h, who); !s.is(want) {
		t.Errorf("tenant %d has %v, want %v", who, s, want)
	}
}

// entries: of a log; each is given as frame, kind, A, B.
func entries(l ...[4]int) []api.Entry {
	var log []api.Entry
	for _, x := range l {
		log = append(log, api.Entry{Frame: x[0], Kind: uint8(x[1]), A: uint16(x[2]), B: uint16(x[3])})
	}
	return log
}

const (
	done   = int(api.Done)
	barred = int(api.Barred)
	broke  = int(api.Broke)
	lost   = int(api.Lost)
)

// model: what a host has to be like.
type model struct {
	route  uint8
	n      int
	guests []*guest
}

type guest struct {
	state
	api.Tenant
	until, held int
}

func modelOf(m []api.Tenant) *model {
	a := &model{}
	for _, x := range m {
		a.guests = append(a.guests, &guest{Tenant: x})
	}
	return a
}

func (a *model) navigate(route uint8) api.Errno {
	if route > 3 {
		return api.ErrRoute
	}
	a.route = route
	return api.OK
}

func (a *model) click(id int) api.Errno {
	if id < 0 || id >= 100*len(a.guests) || a.guests[id/100].phase != api.In {
		return api.ErrNode
	}
	g := a.guests[id/100]
	at := slices.IndexFunc(g.nodes, func(x api.Node) bool { return int(x.Id) == id%100 })
	if at < 0 {
		return api.ErrNode
	}
	clicks := slices.DeleteFunc(slices.Clone(g.box), func(e api.Event) bool { return e.What != api.Click })
	if len(clicks) == 6 {
		return api.ErrFull
	}
	g.box = append(g.box, api.Event{What: api.Click, By: 0, Arg: g.nodes[at].Key, From: 0})
	return api.OK
}

func (a *model) frame(draws [][]uint16) api.Errno {
	if a.n == 200 {
		return api.ErrDone
	}
	a.n++
	for _, g := range a.guests {
		if here := g.Routes&(1<<a.route) != 0; g.phase == api.Held && a.n >= g.until || g.phase == api.In && !here {
			g.state = state{log: g.log}
		}
		if g.phase == api.Out && g.Routes&(1<<a.route) != 0 {
			g.phase = api.In
			g.box = []api.Event{{What: api.Start, Arg: uint16(a.route)}}
		}
	}
	sends := make([][]api.Sent, len(a.guests))
	for t, g := range a.guests {
		if g.phase == api.In {
			var own []uint16
			if t < len(draws) {
				own = draws[t]
			}
			sends[t] = g.handle(a.n, a.route, own)
		}
	}
	for from := range a.guests {
		for _, s := range sends[from] {
			for to := range a.guests {
				if a.guests[from].Pub&(1<<s.Topic) != 0 && to != from {
					a.guests[to].hear(a.n, from, s)
				}
			}
		}
	}
	return api.OK
}

func (g *guest) hear(n, from int, s api.Sent) {
	if g.phase != api.In || g.Sub&(1<<s.Topic) == 0 {
		return
	}
	message := api.Event{What: api.Message, By: uint8(from + 1), Arg: s.Value, From: s.Topic}
	others := slices.DeleteFunc(slices.Clone(g.box), func(e api.Event) bool { return e.What == message.What && e.By == message.By })
	if len(g.box)-len(others) < g.Share {
		g.box = append(g.box, message)
	} else {
		g.log = append(g.log, api.Entry{Frame: n, Kind: api.Lost, A: uint16(s.Topic), B: s.Value})
	}
}

func (g *guest) handle(n int, route uint8, draws []uint16) []api.Sent {
	event := api.Event{What: api.Tick, Arg: uint16(n)}
	if len(g.box) > 0 {
		event = g.box[0]
		g.box = slices.Delete(g.box, 0, 1)
	}
	out, _ := vm.Run(g.Program, api.Input{Fuel: g.Fuel, Cells: g.cells, Event: event, Route: route, Draws: draws})
	if out.Fault != api.Fine {
		g.phase = api.Held
		g.until = n + g.Back*[]int{1, 2, 4, 8, 16}[min(g.held, 4)]
		g.held++
		g.nodes, _ = tree.Plan(g.nodes, []api.Shown{{Key: 65535, Text: "!"}})
		g.box = nil
		g.log = append(g.log, api.Entry{Frame: n, Kind: api.Broke, A: uint16(out.Fault), B: uint16(out.Steps)})
		return nil
	}
	g.cells = out.Cells
	g.nodes, _ = tree.Plan(g.nodes, out.Shows)
	g.log = append(g.log, api.Entry{Frame: n, Kind: api.Done, A: uint16(event.What), B: event.Arg})
	for _, s := range out.Sends {
		if g.Pub&(1<<s.Topic) == 0 {
			g.log = append(g.log, api.Entry{Frame: n, Kind: api.Barred, A: uint16(s.Topic), B: s.Value})
		}
	}
	return out.Sends
}

// everyone: as of a host.
func (a *model) everyone() []state {
	l := make([]state, 6)
	for t, g := range a.guests {
		l[t+1] = g.state
	}
	return l
}
