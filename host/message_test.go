package host_test

import (
	"slices"
	"testing"

	"hostel/api"
	"hostel/host"
)

// talker sends the draws behind its first one to these topics, one to each; nothing, if the first one is 0.
func talker(t *testing.T, topics ...int) string {
	t.Helper()
	l := list(ins(api.Draw), ins(api.If, 1), ins(api.End))
	for _, k := range topics {
		l = append(l, ins(api.Draw), ins(api.Send, k))
	}
	return code(t, l)
}

// fragile breaks with the fault Zero if its first draw is 0, and else sends the second one to a topic.
func fragile(t *testing.T, topic int) string {
	t.Helper()
	return code(t, list(ins(api.Push, 1), ins(api.Draw), ins(api.Div), ins(api.Drop), ins(api.Draw), ins(api.Send, topic)))
}

// quiet does nothing.
const quiet = "\x00"

// linked: a tenant at every route, with these topics and this share.
func linked(program string, pub, sub uint8, share int) api.Tenant {
	x := of(program)
	x.Pub, x.Sub, x.Share = pub, sub, share
	return x
}

// by: a Message of a tenant.
func by(sender int, topic uint8, value uint16) api.Event {
	return api.Event{What: api.Message, By: uint8(sender + 1), Arg: value, From: topic}
}

func wantEvents(t *testing.T, h *host.Host, who int, want ...api.Event) {
	t.Helper()
	if got := h.Box(who); !slices.Equal(got, want) {
		t.Errorf("the box of %d has %v, want %v", who, got, want)
	}
}

// lossesOf: the entries of a tenant's log that are Lost.
func lossesOf(h *host.Host, who int) []api.Entry {
	return slices.DeleteFunc(h.Log(who), func(x api.Entry) bool { return x.Kind != api.Lost })
}

func wantLosses(t *testing.T, h *host.Host, who int, want ...[4]int) {
	t.Helper()
	if got := lossesOf(h, who); !slices.Equal(got, entries(want...)) {
		t.Errorf("tenant %d lost %v, want %v", who, got, want)
	}
}

// P12: the example of the document.
func TestExampleOfMessages(t *testing.T) {
	a := api.Tenant{Program: code(t, list(ins(api.What), ins(api.Send, 1))), Fuel: 9, Routes: 1, Pub: 2, Share: 1, Back: 1}
	b := api.Tenant{Program: code(t, list(ins(api.Arg), ins(api.Store, 0))), Fuel: 9, Routes: 1, Sub: 2, Share: 1, Back: 1}
	h := opened(t, a, b)
	frames(t, h, 1)
	wantState(t, h, 0, state{phase: api.In, log: entries([4]int{1, done, 0, 0})})
	wantState(t, h, 1, state{phase: api.In, box: []api.Event{by(0, 1, 0)}, log: entries([4]int{1, done, 0, 0})})
	frames(t, h, 1)
	wantState(t, h, 0, state{phase: api.In, log: entries([4]int{1, done, 0, 0}, [4]int{2, done, 3, 2})})
	wantState(t, h, 1, state{phase: api.In, box: []api.Event{by(0, 1, 3)}, log: entries([4]int{1, done, 0, 0}, [4]int{2, done, 2, 0})})
	frames(t, h, 1)
	wantState(t, h, 1, state{phase: api.In, cells: [8]uint16{3}, box: []api.Event{by(0, 1, 3)}, log: entries([4]int{1, done, 0, 0}, [4]int{2, done, 2, 0}, [4]int{3, done, 2, 3})})
}

// P12: By, Arg and From of a Message, of each sender, topic and value, to each receiver; none to the sender itself.
func TestFieldsOfMessage(t *testing.T) {
	for sender := range 4 {
		for topic := range 4 {
			for _, value := range []uint16{0, 1, 255, 256, 32768, 65535} {
				m := slices.Repeat([]api.Tenant{linked(teller(t), 15, 15, 1)}, 4)
				m[sender].Program = talker(t, topic)
				h := opened(t, m...)
				draws := make([][]uint16, 4)
				draws[sender] = []uint16{1, value}
				frames(t, h, 1, draws...)
				for who := range 4 {
					if who == sender {
						wantState(t, h, who, state{phase: api.In, log: entries([4]int{1, done, 0, 0})})
						continue
					}
					wantEvents(t, h, who, by(sender, uint8(topic), value))
				}
				frames(t, h, 1)
				for who := range 4 {
					if who != sender {
						wantCells(t, h.Cells(who), [8]uint16{2, value, uint16(topic), 0, 0, 0, 0, 2})
						wantLog(t, h.Log(who), [4]int{1, done, 0, 0}, [4]int{2, done, 2, int(value)})
						wantEvents(t, h, who)
					}
				}
			}
		}
	}
}

// P12: bit k of Sub is for the topic k, and bit k of Pub (P9).
func TestBitsOfSub(t *testing.T) {
	for topic := range 4 {
		for pub := range 16 {
			for sub := range 16 {
				h := opened(t, linked(talker(t, topic), uint8(pub), 0, 1), linked(quiet, 0, uint8(sub), 1))
				frames(t, h, 1, []uint16{1, 77})
				var want []api.Event
				if pub>>topic&1 == 1 && sub>>topic&1 == 1 {
					want = []api.Event{by(0, uint8(topic), 77)}
				}
				wantState(t, h, 1, state{phase: api.In, box: want, log: entries([4]int{1, done, 0, 0})})
			}
		}
	}
}

// P11, P12: sends to topics that are in Pub and to such that are not, in one run: those go out, these are logged.
func TestSomeBarredSomeNot(t *testing.T) {
	h := opened(t, linked(quiet, 0, 15, 3), linked(talker(t, 3, 0, 1, 2), 5, 15, 3), linked(quiet, 0, 14, 3))
	frames(t, h, 1, nil, []uint16{1, 30, 31, 32, 33})
	wantState(t, h, 0, state{phase: api.In, box: []api.Event{by(1, 0, 31), by(1, 2, 33)}, log: entries([4]int{1, done, 0, 0})})
	wantState(t, h, 1, state{phase: api.In, log: entries([4]int{1, done, 0, 0}, [4]int{1, barred, 3, 30}, [4]int{1, barred, 1, 32})})
	wantState(t, h, 2, state{phase: api.In, box: []api.Event{by(1, 2, 33)}, log: entries([4]int{1, done, 0, 0})})
}

// P12: what is sent to a topic in the sender's own Sub does not come back to it, nor is it Lost there.
func TestNothingComesBack(t *testing.T) {
	for sender := range 3 {
		m := slices.Repeat([]api.Tenant{linked(quiet, 0, 15, 2)}, 3)
		m[sender] = linked(talker(t, 2, 2, 2, 2), 15, 15, 1)
		h := opened(t, m...)
		draws := make([][]uint16, 3)
		draws[sender] = []uint16{1, 5, 6, 7, 8}
		frames(t, h, 1, draws...)
		wantState(t, h, sender, state{phase: api.In, log: entries([4]int{1, done, 0, 0})})
		for who := range 3 {
			if who != sender {
				wantState(t, h, who, state{phase: api.In, box: []api.Event{by(sender, 2, 5), by(sender, 2, 6)}, log: entries([4]int{1, done, 0, 0}, [4]int{1, lost, 2, 7}, [4]int{1, lost, 2, 8})})
			}
		}
	}
}

// P12: two tenants with one topic hear each other, and neither itself.
func TestTwoOnOneTopic(t *testing.T) {
	x := linked(talker(t, 1), 2, 2, 1)
	h := opened(t, x, x)
	frames(t, h, 1, []uint16{1, 100}, []uint16{1, 200})
	wantEvents(t, h, 0, by(1, 1, 200))
	wantEvents(t, h, 1, by(0, 1, 100))
}

// P12: a Share of 1, 2 and 3: what one sends beyond it is Lost, while another's still comes in, by the receiver's Share alone.
func TestShare(t *testing.T) {
	for share := 1; share <= 3; share++ {
		for other := 1; other <= 3; other++ {
			h := opened(t, linked(talker(t, 0, 1, 2, 3), 15, 0, other), linked(quiet, 0, 15, share), linked(talker(t, 3, 2, 1, 0), 15, 0, other))
			frames(t, h, 1, []uint16{1, 10, 11, 12, 13}, nil, []uint16{1, 23, 22, 21, 20})
			var box []api.Event
			log := entries([4]int{1, done, 0, 0})
			for n := range 4 {
				if n < share {
					box = append(box, by(0, uint8(n), uint16(10+n)))
				} else {
					log = append(log, entries([4]int{1, lost, n, 10 + n})...)
				}
			}
			for n := 3; n >= 0; n-- {
				if n > 3-share {
					box = append(box, by(2, uint8(n), uint16(20+n)))
				} else {
					log = append(log, entries([4]int{1, lost, n, 20 + n})...)
				}
			}
			wantState(t, h, 1, state{phase: api.In, box: box, log: log})
		}
	}
}

// P12: just the Share, and one more than it.
func TestEdgeOfShare(t *testing.T) {
	for share := 1; share <= 3; share++ {
		for count := 1; count <= 4; count++ {
			h := opened(t, linked(talker(t, slices.Repeat([]int{2}, count)...), 4, 0, 1), linked(quiet, 0, 4, share))
			frames(t, h, 1, []uint16{1, 65535, 65534, 65533, 65532})
			var box []api.Event
			log := entries([4]int{1, done, 0, 0})
			for n := range count {
				if n < share {
					box = append(box, by(0, 2, uint16(65535-n)))
				} else {
					log = append(log, entries([4]int{1, lost, 2, 65535 - n})...)
				}
			}
			wantState(t, h, 1, state{phase: api.In, box: box, log: log})
		}
	}
}

// P12: receivers with Shares of their own get of one send what their own box has room for.
func TestShareOfEachReceiver(t *testing.T) {
	h := opened(t, linked(quiet, 0, 8, 3), linked(quiet, 0, 8, 1), linked(quiet, 0, 8, 2), linked(talker(t, 3, 3, 3), 8, 0, 3))
	frames(t, h, 1, nil, nil, nil, []uint16{1, 7, 8, 9})
	wantEvents(t, h, 0, by(3, 3, 7), by(3, 3, 8), by(3, 3, 9))
	wantLosses(t, h, 0)
	wantEvents(t, h, 1, by(3, 3, 7))
	wantLosses(t, h, 1, [4]int{1, lost, 3, 8}, [4]int{1, lost, 3, 9})
	wantEvents(t, h, 2, by(3, 3, 7), by(3, 3, 8))
	wantLosses(t, h, 2, [4]int{1, lost, 3, 9})
}

// P12: the Share counts what is in the box: when one has been handled, one more by its sender comes in.
func TestShareIsFreedByHandling(t *testing.T) {
	h := opened(t, linked(talker(t, 0, 0), 1, 0, 1), linked(talker(t, 0, 0), 1, 0, 1), linked(quiet, 0, 1, 2))
	frames(t, h, 1, []uint16{1, 10, 11}, []uint16{1, 20, 21})
	frames(t, h, 1, []uint16{1, 12, 13}, []uint16{1, 22, 23})
	wantEvents(t, h, 2, by(0, 0, 11), by(1, 0, 20), by(1, 0, 21), by(0, 0, 12))
	wantLosses(t, h, 2, [4]int{2, lost, 0, 13}, [4]int{2, lost, 0, 22}, [4]int{2, lost, 0, 23})
	frames(t, h, 2)
	wantEvents(t, h, 2, by(1, 0, 21), by(0, 0, 12))
	frames(t, h, 1, []uint16{1, 14, 15}, []uint16{1, 24, 25})
	wantEvents(t, h, 2, by(0, 0, 12), by(0, 0, 14), by(1, 0, 24), by(1, 0, 25))
	wantLog(t, h.Log(2), [4]int{1, done, 0, 0}, [4]int{2, done, 2, 10}, [4]int{2, lost, 0, 13}, [4]int{2, lost, 0, 22}, [4]int{2, lost, 0, 23}, [4]int{3, done, 2, 11}, [4]int{4, done, 2, 20}, [4]int{5, done, 2, 21}, [4]int{5, lost, 0, 15})
}

// P12: Lost comes behind the receiver's own Done and Barred of the frame, wherever it stands in the order.
func TestLostIsLast(t *testing.T) {
	loud := linked(talker(t, 0, 0), 1, 0, 1)
	both := linked(talker(t, 3), 0, 1, 1)
	h := opened(t, both, loud, both)
	frames(t, h, 1, []uint16{1, 9}, []uint16{1, 7, 8}, []uint16{1, 9})
	for _, who := range []int{0, 2} {
		wantLog(t, h.Log(who), [4]int{1, done, 0, 0}, [4]int{1, barred, 3, 9}, [4]int{1, lost, 0, 8})
	}
}

// P12: tenant by tenant, and of each send by send, in their order, to receivers ahead of, between and behind them.
func TestOrderOfMessages(t *testing.T) {
	h := opened(t, linked(talker(t, 2, 0, 1), 15, 15, 3), linked(quiet, 0, 15, 3), linked(talker(t, 1, 3), 15, 15, 3), linked(talker(t, 0, 2), 15, 15, 3))
	frames(t, h, 1, []uint16{1, 10, 11, 12}, nil, []uint16{1, 20, 21}, []uint16{1, 30, 31})
	of0 := []api.Event{by(0, 2, 10), by(0, 0, 11), by(0, 1, 12)}
	of2 := []api.Event{by(2, 1, 20), by(2, 3, 21)}
	of3 := []api.Event{by(3, 0, 30), by(3, 2, 31)}
	wantEvents(t, h, 0, slices.Concat(of2, of3)...)
	wantEvents(t, h, 1, slices.Concat(of0, of2, of3)...)
	wantEvents(t, h, 2, slices.Concat(of0, of3)...)
	wantEvents(t, h, 3, slices.Concat(of0, of2)...)
}

// P12: a receiver ahead of the sender and one behind it: both handle in the frame n + 1 what was sent in the frame n.
func TestHandledInNextFrame(t *testing.T) {
	echo := code(t, list(ins(api.What), ins(api.Store, 0), ins(api.Arg), ins(api.Store, 1)))
	h := opened(t, linked(echo, 0, 1, 1), linked(talker(t, 0), 1, 0, 1), linked(echo, 0, 1, 1))
	frames(t, h, 3)
	frames(t, h, 1, nil, []uint16{1, 99})
	for _, who := range []int{0, 2} {
		wantCells(t, h.Cells(who), [8]uint16{3, 4})
		wantEvents(t, h, who, by(1, 0, 99))
	}
	frames(t, h, 1)
	for _, who := range []int{0, 2} {
		wantCells(t, h.Cells(who), [8]uint16{2, 99})
		wantEvents(t, h, who)
	}
	frames(t, h, 1)
	for _, who := range []int{0, 2} {
		wantCells(t, h.Cells(who), [8]uint16{3, 6})
		wantLog(t, h.Log(who), [4]int{1, done, 0, 0}, [4]int{2, done, 3, 2}, [4]int{3, done, 3, 3}, [4]int{4, done, 3, 4}, [4]int{5, done, 2, 99}, [4]int{6, done, 3, 6})
	}
}

// P12: a message goes on a frame each, whichever way the tenants stand.
func TestPassedOn(t *testing.T) {
	pass := func(from, to int) api.Tenant {
		l := list(ins(api.What), ins(api.Push, 2), ins(api.Same), ins(api.If, 1), ins(api.End), ins(api.Arg), ins(api.Push, 1), ins(api.Add), ins(api.Send, to))
		return linked(code(t, l), uint8(1<<to), uint8(1<<from), 1)
	}
	for _, places := range [][]int{{0, 1, 2, 3}, {3, 2, 1, 0}, {2, 0, 3, 1}} {
		m := make([]api.Tenant, 4)
		m[places[0]] = linked(talker(t, 0), 1, 0, 1)
		m[places[1]], m[places[2]], m[places[3]] = pass(0, 1), pass(1, 2), pass(2, 3)
		h := opened(t, m...)
		draws := make([][]uint16, 4)
		draws[places[0]] = []uint16{1, 65534}
		frames(t, h, 1, draws...)
		for n, value := range []uint16{65534, 65535, 0} {
			for i, who := range places {
				if i == n+1 {
					wantEvents(t, h, who, by(places[n], uint8(n), value))
				} else {
					wantEvents(t, h, who)
				}
			}
			frames(t, h, 1)
		}
	}
}

// P10, P12: Clicks and Messages stand in one box, in the order in which they came, and are handled so; neither takes the other's room.
func TestClicksAndMessages(t *testing.T) {
	h := opened(t, linked(shower(t), 0, 1, 2), linked(talker(t, 0, 0, 0), 1, 0, 1))
	clicked := func(key uint16) api.Event { return api.Event{What: api.Click, Arg: key} }
	frames(t, h, 1)
	click(t, h, 2, api.OK)
	click(t, h, 1, api.OK)
	frames(t, h, 1, nil, []uint16{1, 70, 71, 72})
	click(t, h, 3, api.OK)
	box := []api.Event{clicked(10), by(1, 0, 70), by(1, 0, 71), clicked(30)}
	wantEvents(t, h, 0, box...)
	wantLosses(t, h, 0, [4]int{2, lost, 0, 72})
	for range 4 {
		click(t, h, 1, api.OK)
		box = append(box, clicked(10))
	}
	click(t, h, 1, api.ErrFull)
	click(t, h, 4, api.ErrNode)
	wantEvents(t, h, 0, box...)
	for n, e := range box {
		frames(t, h, 1)
		wantCells(t, h.Cells(0), [8]uint16{uint16(e.What), e.Arg})
		wantEvents(t, h, 0, box[n+1:]...)
	}
	frames(t, h, 1)
	wantCells(t, h.Cells(0), [8]uint16{3, 11})
}

// P12: 6 Clicks ahead of them keep no Message out; they are handled frames later.
func TestMessagesBehindClicks(t *testing.T) {
	h := opened(t, linked(shower(t), 0, 1, 3), linked(talker(t, 0, 0, 0, 0), 1, 0, 1))
	frames(t, h, 1)
	for range 6 {
		click(t, h, 2, api.OK)
	}
	frames(t, h, 1, nil, []uint16{1, 40, 41, 42, 43})
	wantLosses(t, h, 0, [4]int{2, lost, 0, 43})
	if b := h.Box(0); len(b) != 8 || !slices.Equal(b[5:], []api.Event{by(1, 0, 40), by(1, 0, 41), by(1, 0, 42)}) {
		t.Errorf("behind 5 Clicks: %v", b)
	}
	frames(t, h, 5)
	wantCells(t, h.Cells(0), [8]uint16{1, 20})
	frames(t, h, 1)
	wantCells(t, h.Cells(0), [8]uint16{2, 40})
	wantEvents(t, h, 0, by(1, 0, 41), by(1, 0, 42))
}

// P12: a tenant that is Out gets nothing, and nothing is logged; the others do.
func TestOutGetsNothing(t *testing.T) {
	away := linked(quiet, 0, 15, 1)
	away.Routes = 14
	h := opened(t, away, linked(talker(t, 0, 1, 2, 3), 15, 0, 1), away, linked(quiet, 0, 15, 3))
	for range 3 {
		frames(t, h, 1, nil, []uint16{1, 2, 3, 4, 5})
		wantState(t, h, 0, state{})
		wantState(t, h, 2, state{})
	}
	if len(h.Box(3)) != 3 || len(lossesOf(h, 3)) == 0 {
		t.Errorf("one that is In has %v and lost %v", h.Box(3), lossesOf(h, 3))
	}
	goTo(t, h, 1)
	frames(t, h, 1, nil, []uint16{1, 6, 7})
	for _, who := range []int{0, 2} {
		wantState(t, h, who, state{phase: api.In, box: []api.Event{by(1, 0, 6)}, log: entries([4]int{4, done, 0, 1}, [4]int{4, lost, 1, 7}, [4]int{4, lost, 2, 0}, [4]int{4, lost, 3, 0})})
	}
}

// P12: one that goes Out in this very frame gets nothing of it; one that comes In does.
func TestComesAndGoesInThisFrame(t *testing.T) {
	for sender := range 3 {
		goes, comes := linked(quiet, 0, 1, 3), linked(quiet, 0, 1, 3)
		goes.Routes, comes.Routes = 1, 2
		m := slices.Insert([]api.Tenant{goes, comes}, sender, linked(talker(t, 0), 1, 0, 1))
		draws := make([][]uint16, 3)
		draws[sender] = []uint16{1, 50}
		var places []int
		for who := range 3 {
			if who != sender {
				places = append(places, who)
			}
		}
		h := opened(t, m...)
		frames(t, h, 1)
		goTo(t, h, 1)
		frames(t, h, 1, draws...)
		wantState(t, h, places[0], state{log: entries([4]int{1, done, 0, 0})})
		wantState(t, h, places[1], state{phase: api.In, box: []api.Event{by(sender, 0, 50)}, log: entries([4]int{2, done, 0, 1})})
	}
}

// P12: a tenant that is Held, and one that is Held in this very frame, ahead of the sender or behind it, gets nothing, and nothing is logged; in the frame in which it is In again, it does.
func TestHeldGetsNothing(t *testing.T) {
	x := linked(fragile(t, 3), 0, 1, 1)
	x.Back = 3
	sign := []api.Node{{Id: 1, Key: 65535, Text: "!"}}
	h := opened(t, x, linked(talker(t, 0, 0), 1, 0, 1), x)
	good, bad, loud := []uint16{1, 4}, []uint16{0}, []uint16{1, 80, 81}
	frames(t, h, 1, good, nil, good)
	log := entries([4]int{1, done, 0, 0}, [4]int{1, barred, 3, 4}, [4]int{2, broke, int(api.Zero), 3})
	frames(t, h, 1, bad, loud, bad)
	for n := 3; ; n++ {
		for _, who := range []int{0, 2} {
			wantState(t, h, who, state{phase: api.Held, nodes: sign, log: log})
		}
		frames(t, h, 1, good, loud, good)
		if n == 5 {
			break
		}
	}
	log = append(log, entries([4]int{5, done, 0, 0}, [4]int{5, barred, 3, 4}, [4]int{5, lost, 0, 81})...)
	for _, who := range []int{0, 2} {
		wantState(t, h, who, state{phase: api.In, box: []api.Event{by(1, 0, 80)}, log: log})
	}
}

// P12: one that handles a message and breaks by it gets none of this frame.
func TestBrokenByMessage(t *testing.T) {
	h := opened(t, linked(talker(t, 0, 0), 1, 0, 1), linked(code(t, list(ins(api.Push, 1), ins(api.What), ins(api.Push, 2), ins(api.Sub), ins(api.Div))), 0, 1, 3))
	loud := []uint16{1, 60, 61}
	frames(t, h, 1, loud)
	wantEvents(t, h, 1, by(0, 0, 60), by(0, 0, 61))
	frames(t, h, 1, loud)
	wantState(t, h, 1, state{phase: api.Held, nodes: []api.Node{{Id: 1, Key: 65535, Text: "!"}}, log: entries([4]int{1, done, 0, 0}, [4]int{2, broke, int(api.Zero), 5})})
}

// P11, P12: of a run that breaks nothing goes out, though it had sent; nor of a tenant that is Held or Out.
func TestBrokenSendsNothing(t *testing.T) {
	breaks := linked(code(t, list(ins(api.Push, 7), ins(api.Send, 0), ins(api.Push, 1), ins(api.Draw), ins(api.Div))), 1, 0, 1)
	breaks.Routes = 1
	breaks.Back = 3
	h := opened(t, linked(quiet, 0, 1, 3), breaks, linked(quiet, 0, 1, 3))
	frames(t, h, 3)
	for _, who := range []int{0, 2} {
		wantState(t, h, who, state{phase: api.In, log: entries([4]int{1, done, 0, 0}, [4]int{2, done, 3, 2}, [4]int{3, done, 3, 3})})
	}
	good := []uint16{1}
	frames(t, h, 1, nil, good)
	goTo(t, h, 1)
	frames(t, h, 2, nil, good)
	for _, who := range []int{0, 2} {
		wantState(t, h, who, state{phase: api.In, log: entries([4]int{1, done, 0, 0}, [4]int{2, done, 3, 2}, [4]int{3, done, 3, 3}, [4]int{4, done, 3, 4}, [4]int{5, done, 2, 7}, [4]int{6, done, 3, 6})})
	}
}

// P9, P12: what waits in the box when its tenant goes Out is gone, and takes no room when it is In again.
func TestBoxGoesWhenOut(t *testing.T) {
	x := linked(quiet, 0, 1, 2)
	x.Routes = 5
	h := opened(t, linked(talker(t, 0, 0, 0), 1, 0, 1), x)
	frames(t, h, 1, []uint16{1, 10, 11, 12})
	wantEvents(t, h, 1, by(0, 0, 10), by(0, 0, 11))
	goTo(t, h, 1)
	wantEvents(t, h, 1, by(0, 0, 10), by(0, 0, 11))
	frames(t, h, 1, []uint16{1, 20, 21, 22})
	log := entries([4]int{1, done, 0, 0}, [4]int{1, lost, 0, 12})
	wantState(t, h, 1, state{log: log})
	goTo(t, h, 2)
	frames(t, h, 1, []uint16{1, 30, 31, 32})
	log = append(log, entries([4]int{3, done, 0, 2}, [4]int{3, lost, 0, 32})...)
	wantState(t, h, 1, state{phase: api.In, box: []api.Event{by(0, 0, 30), by(0, 0, 31)}, log: log})
}

// P11, P12: what waits in the box when its tenant is Held is gone too, and the Clicks with it.
func TestBoxGoesWhenHeld(t *testing.T) {
	x := linked(code(t, list(ins(api.Push, 5), ins(api.Show), ins(api.Push, 1), ins(api.Draw), ins(api.Div))), 0, 1, 2)
	h := opened(t, x, linked(talker(t, 0, 0), 1, 0, 1))
	good := []uint16{1}
	frames(t, h, 1, good, []uint16{1, 10, 11})
	click(t, h, 1, api.OK)
	wantEvents(t, h, 0, by(1, 0, 10), by(1, 0, 11), api.Event{What: api.Click, Arg: 5})
	frames(t, h, 1)
	wantEvents(t, h, 0)
	frames(t, h, 1, good, []uint16{1, 20, 21})
	wantEvents(t, h, 0, by(1, 0, 20), by(1, 0, 21))
	wantLog(t, h.Log(0), [4]int{1, done, 0, 0}, [4]int{2, broke, int(api.Zero), 5}, [4]int{3, done, 0, 0})
}

// P12: what a tenant sent waits on, and counts for its Share, when the sender is Held or Out.
func TestSenderGoes(t *testing.T) {
	s := linked(fragile(t, 0), 1, 0, 1)
	s.Routes = 1
	h := opened(t, linked(shower(t), 0, 1, 1), s)
	frames(t, h, 1)
	for range 6 {
		click(t, h, 1, api.OK)
	}
	frames(t, h, 1, nil, []uint16{1, 90})
	frames(t, h, 1, nil, []uint16{0})
	frames(t, h, 1, nil, []uint16{1, 91})
	wantLog(t, h.Log(1), [4]int{1, broke, int(api.Zero), 3}, [4]int{2, done, 0, 0}, [4]int{3, broke, int(api.Zero), 3})
	goTo(t, h, 1)
	frames(t, h, 1, nil, []uint16{1, 92})
	goTo(t, h, 0)
	frames(t, h, 1, nil, []uint16{1, 93})
	wantEvents(t, h, 0, api.Event{What: api.Click, Arg: 10}, by(1, 0, 90))
	wantLosses(t, h, 0, [4]int{6, lost, 0, 93})
}

// P12: what is sent in the frame 200 is delivered; what ErrDone answers delivers nothing more.
func TestMessagesOfLastFrame(t *testing.T) {
	h := opened(t, linked(talker(t, 0, 0), 1, 0, 1), linked(quiet, 0, 1, 1))
	frames(t, h, 199)
	frames(t, h, 1, []uint16{1, 3, 4})
	before := everyone(h)
	wantEvents(t, h, 1, by(0, 0, 3))
	wantLosses(t, h, 1, [4]int{200, lost, 0, 4})
	if e := h.Frame([][]uint16{{1, 5, 6}}); e != api.ErrDone {
		t.Errorf("frame 201: %d, want ErrDone", e)
	}
	if l := everyone(h); !same(l, before) {
		t.Errorf("P1: behind a frame that was too many: %v, want %v", l, before)
	}
}

// P12: what went out in a frame is delivered once.
func TestDeliveredOnce(t *testing.T) {
	h := opened(t, linked(talker(t, 0), 1, 0, 1), linked(quiet, 0, 1, 3))
	frames(t, h, 1, []uint16{1, 5})
	wantEvents(t, h, 1, by(0, 0, 5))
	for range 3 {
		frames(t, h, 1)
		wantEvents(t, h, 1)
	}
	wantLosses(t, h, 1)
}

// chatter: four tenants who send and get all topics, so that boxes and logs grow in each frame.
func chatter(t *testing.T) []api.Tenant {
	var m []api.Tenant
	for who := range 4 {
		m = append(m, linked(talker(t, who, 3-who, 1, 2), 15, 15, 1+who%3))
	}
	return m
}

// P2: what Box and Log told stays as it was through later frames with messages, and what the caller writes there reaches nobody.
func TestBoxAndLogAreTheCallers(t *testing.T) {
	m := chatter(t)
	h, a := opened(t, m...), modelOf(m)
	var kept, copies []state
	event, entry := api.Event{What: 99, By: 99, Arg: 99}, api.Entry{Frame: 99, Kind: 99}
	for n := range 200 {
		v := uint16(n)
		draws := [][]uint16{{v % 2, v, 1, 2, 3}, {v % 3, v, 4, 5, 6}, {v % 5, v, 7, 8, 9}, {1, v, 10, 11, 12}}
		frames(t, h, 1, draws...)
		a.frame(draws)
		for who := range 4 {
			s := told(h, who)
			kept = append(kept, s)
			copies = append(copies, state{s.phase, s.cells, slices.Clone(s.nodes), slices.Clone(s.box), slices.Clone(s.log)})
			scribble(h.Box(who), event)
			scribble(h.Log(who), entry)
			scribble(s.box[len(s.box):], event)
			scribble(s.log[len(s.log):], entry)
		}
		if got, want := everyone(h), a.everyone(); !same(got, want) {
			t.Fatalf("frame %d: %v, want %v", n+1, got, want)
		}
	}
	if !same(kept, copies) {
		t.Errorf("later frames changed what Box or Log told")
	}
	for _, s := range kept {
		if !holds(s.box[len(s.box):], event) || !holds(s.log[len(s.log):], entry) {
			t.Fatalf("later frames changed the spare room behind what Box or Log told")
		}
	}
}

// holds: whether the spare room behind a list has only this in it.
func holds[T comparable](l []T, v T) bool {
	return !slices.ContainsFunc(l[:cap(l)], func(x T) bool { return x != v })
}

// P2: hosts of one list hear nothing of each other's messages.
func TestMessagesStayInTheirHost(t *testing.T) {
	m := chatter(t)
	loud, still := opened(t, m...), opened(t, m...)
	for n := range 50 {
		frames(t, loud, 1, slices.Repeat([][]uint16{{1, uint16(n), 2, 3, 4}}, 4)...)
		frames(t, still, 1)
		for who := range 4 {
			if len(loud.Box(who)) == 0 {
				t.Errorf("frame %d: nobody sent anything to %d", n+1, who)
			}
			wantEvents(t, still, who)
		}
	}
	for who := range 4 {
		if l := still.Log(who); len(l) != 50 || slices.ContainsFunc(l, func(x api.Entry) bool { return x.Kind != api.Done }) {
			t.Errorf("the log of %d: %v", who, l)
		}
	}
}
