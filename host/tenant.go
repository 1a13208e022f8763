package host

import (
	"hostel/api"
	"hostel/tree"
	"hostel/vm"
)

// maxDoublings is how often the wait of a tenant that is Held doubles at most.
const maxDoublings = 4

// tenant is a tenant at work.
type tenant struct {
	manifest  api.Tenant
	phase     uint8
	cells     [api.MaxCells]uint16
	nodes     []api.Node
	box       []api.Event
	log       []api.Entry
	until     int   // the frame in which it is Held no longer
	doublings uint8 // of the wait when it is Held next
}

// comeAndGo turns the phase at the beginning of the frame n.
func (x *tenant) comeAndGo(n int, route uint8) {
	onPage := hasBit(x.manifest.Routes, route)
	// One that is Held no longer may come In again in the same frame.
	if x.phase == api.Held && n >= x.until {
		x.goOut()
	}
	if x.phase == api.In && !onPage {
		x.goOut()
	}
	if x.phase == api.Out && onPage {
		x.phase = api.In
		x.box = append(x.box, api.Event{What: api.Start, Arg: uint16(route)})
	}
}

// goOut leaves the tenant nothing but its log, and the count of its doublings.
func (x *tenant) goOut() {
	x.phase = api.Out
	x.cells = [api.MaxCells]uint16{}
	x.nodes = nil
	x.box = nil
}

// click lays a click at the node with an Id into the box.
func (x *tenant) click(id int) api.Errno {
	if x.phase != api.In {
		return api.ErrNode
	}
	for _, node := range x.nodes {
		if int(node.Id) == id {
			return x.takeClick(node.Key)
		}
	}
	return api.ErrNode
}

// takeClick lays a click at the node with a key into the box, if it has room.
func (x *tenant) takeClick(key uint16) api.Errno {
	clicks := 0
	for _, event := range x.box {
		if event.What == api.Click {
			clicks++
		}
	}
	if clicks >= api.MaxClicks {
		return api.ErrFull
	}
	x.box = append(x.box, api.Event{What: api.Click, Arg: key})
	return api.OK
}

// handle runs the program for one event, in the frame n; the answer is what goes out.
func (x *tenant) handle(n int, route uint8, draws []uint16) []api.Sent {
	event := x.nextEvent(n)
	in := api.Input{Fuel: x.manifest.Fuel, Cells: x.cells, Event: event, Route: route, Draws: draws}
	// There is no error: New took only a Program and a Fuel that can be run.
	out, _ := vm.Run(x.manifest.Program, in)
	if out.Fault != api.Fine {
		x.hold(n, out)
		return nil
	}
	return x.finish(n, event, out)
}

// nextEvent takes the first event out of the box; if there is none, it is a Tick.
func (x *tenant) nextEvent(n int) api.Event {
	if len(x.box) == 0 {
		return api.Event{What: api.Tick, Arg: uint16(n)}
	}
	first := x.box[0]
	x.box = x.box[1:]
	return first
}

// finish keeps what a run without a fault has come to; the answer is what goes out.
func (x *tenant) finish(n int, event api.Event, out api.Outcome) []api.Sent {
	x.cells = out.Cells
	x.show(out.Shows)
	x.note(n, api.Done, uint16(event.What), event.Arg)
	var going []api.Sent
	for _, s := range out.Sends {
		if hasBit(x.manifest.Pub, s.Topic) {
			going = append(going, s)
		} else {
			x.note(n, api.Barred, uint16(s.Topic), s.Value)
		}
	}
	return going
}

// hold shuts the tenant out for a while, behind a run with a fault.
func (x *tenant) hold(n int, out api.Outcome) {
	x.phase = api.Held
	x.until = n + x.manifest.Back<<x.doublings
	if x.doublings < maxDoublings {
		x.doublings++
	}
	x.show([]api.Shown{{Key: 65535, Text: "!"}})
	x.box = nil
	x.note(n, api.Broke, uint16(out.Fault), uint16(out.Steps))
}

// show plans the tree anew.
func (x *tenant) show(shows []api.Shown) {
	// There is no error: the tree has at most as many nodes as a run has shows, 8, so that 16 Ids are enough.
	next, _ := tree.Plan(x.nodes, shows)
	x.nodes = next
}

// note writes an entry into the log.
func (x *tenant) note(n int, kind uint8, a, b uint16) {
	x.log = append(x.log, api.Entry{Frame: n, Kind: kind, A: a, B: b})
}
