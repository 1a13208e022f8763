package vm

import "hostel/api"

// machine is a run at work.
type machine struct {
	pile   [api.MaxPile]uint16
	height int
	cells  [api.MaxCells]uint16
	text   string
	chars  int // of the text: its bytes are more than its characters
	shows  []api.Shown
	sends  []api.Sent
	next   int
	steps  int
	draws  int
	ended  bool
	fault  uint8
}

// run does steps until the run ends, has a fault, or the fuel is spent.
func (m *machine) run(program []api.Ins, in api.Input) {
	// The end is looked for ahead of the fuel: a run that ends with its last fuel is not Spent.
	for !m.ended && m.fault == api.Fine && m.next < len(program) {
		if m.steps == in.Fuel {
			m.fault = api.Spent
			return
		}
		m.steps++
		m.step(program[m.next], in)
	}
}

// outcome is what the run has come to; first are the cells that it began with.
func (m *machine) outcome(first [api.MaxCells]uint16) api.Outcome {
	out := api.Outcome{Fault: m.fault, Steps: m.steps, Draws: m.draws, Cells: first}
	if m.fault == api.Fine {
		out.Cells = m.cells
		out.Shows = m.shows
		out.Sends = m.sends
	}
	return out
}

// step does one instruction of a program that Decode took: its operand is known to fit.
func (m *machine) step(x api.Ins, in api.Input) {
	m.next++
	switch x.Op {
	case api.End:
		m.ended = true
	case api.Push:
		m.push(uint16(x.A))
	case api.Load:
		m.push(m.cells[x.A])
	case api.Store:
		v := m.pop()
		m.cells[x.A] = v
	case api.Jump:
		m.next += x.A
	case api.If:
		m.jumpIf(x.A)
	case api.What:
		m.push(uint16(in.Event.What))
	case api.Arg:
		m.push(in.Event.Arg)
	case api.From:
		m.push(uint16(in.Event.From))
	case api.Route:
		m.push(uint16(in.Route))
	case api.Draw:
		m.draw(in.Draws)
	case api.Char:
		m.char()
	case api.Show:
		m.show()
	case api.Send:
		m.send(uint8(x.A))
	case api.Copy:
		m.double()
	case api.Drop:
		m.pop()
	default:
		m.reckon(x.Op)
	}
}

// push lays a number onto the pile.
func (m *machine) push(v uint16) {
	if m.height >= api.MaxPile {
		m.fault = api.Pile
		return
	}
	m.pile[m.height] = v
	m.height++
}

// pop takes the last number from the pile; 0 beside the fault.
func (m *machine) pop() uint16 {
	if m.height <= 0 {
		m.fault = api.Pile
		return 0
	}
	m.height--
	return m.pile[m.height]
}

// jumpIf goes a instructions on if what it pops is not 0.
func (m *machine) jumpIf(a int) {
	v := m.pop()
	if v != 0 {
		m.next += a
	}
}

// draw pushes the next draw, which is taken whether the pile has room or not.
func (m *machine) draw(draws []uint16) {
	var v uint16
	if m.draws < len(draws) {
		v = draws[m.draws]
		m.draws++
	}
	m.push(v)
}

// double pushes what it pops twice.
func (m *machine) double() {
	v := m.pop()
	if m.fault != api.Fine {
		return
	}
	m.push(v)
	m.push(v)
}

// char joins the character of what it pops to the text.
func (m *machine) char() {
	v := m.pop()
	if m.fault != api.Fine {
		return
	}
	if m.chars >= api.MaxText {
		m.fault = api.Long
		return
	}
	m.text += character(v)
	m.chars++
}

// show shows the text under the key that it pops.
func (m *machine) show() {
	key := m.pop()
	if m.fault != api.Fine {
		return
	}
	if len(m.shows) >= api.MaxShows {
		m.fault = api.Many
		return
	}
	for _, s := range m.shows {
		if s.Key == key {
			m.fault = api.Twice
			return
		}
	}
	m.shows = append(m.shows, api.Shown{Key: key, Text: m.text})
	m.text = ""
	m.chars = 0
}

// send sends what it pops to a topic.
func (m *machine) send(topic uint8) {
	v := m.pop()
	if m.fault != api.Fine {
		return
	}
	if len(m.sends) >= api.MaxSends {
		m.fault = api.Many
		return
	}
	m.sends = append(m.sends, api.Sent{Topic: topic, Value: v})
}

// reckon pushes what an Op of two numbers makes of the two that it pops.
func (m *machine) reckon(op uint8) {
	b := m.pop()
	a := m.pop()
	if m.fault != api.Fine {
		return
	}
	if op != api.Div {
		m.push(combine(op, a, b))
		return
	}
	if b == 0 {
		m.fault = api.Zero
		return
	}
	m.push(a / b)
}
