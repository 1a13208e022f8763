package vm_test

import (
	"math"
	"slices"
	"strings"
	"testing"

	"hostel/api"
	"hostel/vm"
)

// start: cells that a run begins with, so that a changed one shows.
var start = [8]uint16{10, 11, 12, 13, 14, 15, 16, 17}

func bytesOf(t *testing.T, l []api.Ins) string {
	t.Helper()
	s, e := vm.Encode(l)
	if e != api.OK {
		t.Fatalf("Encode(%v): %d", l, e)
	}
	return s
}

func run(t *testing.T, in api.Input, l []api.Ins) api.Outcome {
	t.Helper()
	out, e := vm.Run(bytesOf(t, l), in)
	if e != api.OK {
		t.Fatalf("Run(%v): %d", l, e)
	}
	return out
}

// wantFault: the run has this fault, with nothing beside it but the steps and the draws.
func wantFault(t *testing.T, in api.Input, l []api.Ins, fault uint8, steps, draws int) {
	t.Helper()
	out := run(t, in, l)
	if out.Fault != fault || out.Steps != steps || out.Draws != draws || out.Cells != in.Cells || out.Shows != nil || out.Sends != nil {
		t.Errorf("%v with the fuel %d: %+v, want the fault %d, %d steps, %d draws", l, in.Fuel, out, fault, steps, draws)
	}
}

// wantFine: the run ends well, with these steps.
func wantFine(t *testing.T, in api.Input, l []api.Ins, steps int) api.Outcome {
	t.Helper()
	out := run(t, in, l)
	if out.Fault != api.Fine || out.Steps != steps {
		t.Errorf("%v with the fuel %d: %+v, want Fine, %d steps", l, in.Fuel, out, steps)
	}
	return out
}

// signed: a number of 16 bits as a signed one.
func signed(v int) int {
	if v >= 32768 {
		return v - 65536
	}
	return v
}

func oneIf(b bool) int {
	if b {
		return 1
	}
	return 0
}

// reckoned: what an Op of two numbers makes of them, by whole numbers alone.
func reckoned(op uint8, a, b int) int {
	power := 1
	for range b % 16 {
		power *= 2
	}
	switch op {
	case api.Add:
		return (a + b) % 65536
	case api.Sub:
		return (a - b + 65536) % 65536
	case api.Mul:
		return a * b % 65536
	case api.Div:
		return a / b
	case api.And:
		return a & b
	case api.Xor:
		return (a | b) - (a & b)
	case api.Shl:
		return a * power % 65536
	case api.Shr:
		return a / power
	case api.Sar:
		v := signed(a)
		return (v - ((v%power)+power)%power) / power & 65535
	case api.Less:
		return oneIf(a < b)
	case api.Under:
		return oneIf(signed(a) < signed(b))
	}
	return oneIf(a == b)
}

// P4: the Ops of two numbers, at the ends of the numbers and of the signed ones.
func TestTwoNumbers(t *testing.T) {
	values := []int{0, 1, 2, 3, 7, 9, 15, 16, 17, 31, 32, 255, 256, 257, 4095, 16384, 32766, 32767, 32768, 32769, 49152, 65280, 65533, 65534, 65535}
	for op := api.Add; op <= api.Same; op++ {
		for _, a := range values {
			for _, b := range values {
				l := []api.Ins{ins(api.Push, a), ins(api.Push, b), ins(op), ins(api.Store, 3)}
				in := api.Input{Fuel: 4, Cells: start}
				if op == api.Div && b == 0 {
					wantFault(t, in, l, api.Zero, 3, 0)
					continue
				}
				want := start
				want[3] = uint16(reckoned(op, a, b))
				if out := wantFine(t, in, l, 4); out.Cells != want {
					t.Errorf("Op %d of %d and %d: %d, want %d", op, a, b, out.Cells[3], want[3])
				}
			}
		}
	}
}

// P4: the sums that the document works out.
func TestExamplesOfSums(t *testing.T) {
	for _, c := range []struct {
		op      uint8
		a, b, v int
	}{
		{api.Sub, 7, 9, 65534},
		{api.Sar, 32768, 1, 49152},
		{api.Shr, 32768, 1, 16384},
		{api.Under, 65535, 1, 1},
		{api.Less, 65535, 1, 0},
		{api.Shl, 1, 17, 2},
	} {
		out := wantFine(t, api.Input{Fuel: 1000}, []api.Ins{ins(api.Push, c.a), ins(api.Push, c.b), ins(c.op), ins(api.Store, 0)}, 4)
		if out.Cells != [8]uint16{uint16(c.v)} {
			t.Errorf("Op %d of %d and %d: %v, want %d", c.op, c.a, c.b, out.Cells, c.v)
		}
	}
}

// P4: each cell is loaded and stored by its own number.
func TestCells(t *testing.T) {
	for from := range 8 {
		for to := range 8 {
			want := start
			want[to] = start[from]
			if out := wantFine(t, api.Input{Fuel: 2, Cells: start}, []api.Ins{ins(api.Load, from), ins(api.Store, to)}, 2); out.Cells != want {
				t.Errorf("Load %d, Store %d: %v, want %v", from, to, out.Cells, want)
			}
		}
	}
}

// P4: what is pushed of the event and the route, at the greatest numbers too.
func TestEventAndRoute(t *testing.T) {
	for _, in := range []api.Input{
		{Event: api.Event{What: api.Message, By: 4, Arg: 500, From: 3}, Route: 1},
		{Event: api.Event{What: 255, By: 254, Arg: 65535, From: 253}, Route: 252},
		{},
	} {
		in.Fuel = 8
		out := wantFine(t, in, []api.Ins{ins(api.What), ins(api.Store, 0), ins(api.Arg), ins(api.Store, 1), ins(api.From), ins(api.Store, 2), ins(api.Route), ins(api.Store, 3)}, 8)
		if want := [8]uint16{uint16(in.Event.What), in.Event.Arg, uint16(in.Event.From), uint16(in.Route)}; out.Cells != want {
			t.Errorf("%+v: %v, want %v", in, out.Cells, want)
		}
	}
}

// P4: draws are taken one by one; 0 when there is none any more, and that is not counted.
func TestDraws(t *testing.T) {
	l := []api.Ins{ins(api.Draw), ins(api.Store, 0), ins(api.Draw), ins(api.Store, 1), ins(api.Draw), ins(api.Store, 2)}
	for _, c := range []struct {
		draws []uint16
		taken int
		cells [3]uint16
	}{
		{nil, 0, [3]uint16{}},
		{[]uint16{}, 0, [3]uint16{}},
		{[]uint16{65535}, 1, [3]uint16{65535}},
		{[]uint16{5, 0, 6}, 3, [3]uint16{5, 0, 6}},
		{[]uint16{5, 6, 7, 8}, 3, [3]uint16{5, 6, 7}},
	} {
		out := wantFine(t, api.Input{Fuel: 6, Cells: start, Draws: c.draws}, l, 6)
		if [3]uint16(out.Cells[:3]) != c.cells || out.Draws != c.taken {
			t.Errorf("draws %v: %+v, want %v, %d taken", c.draws, out, c.cells, c.taken)
		}
	}
	full := join(many(8, ins(api.Push, 1)), []api.Ins{ins(api.Draw)})
	wantFault(t, api.Input{Fuel: 99, Cells: start, Draws: []uint16{4, 5}}, full, api.Pile, 9, 1)
	wantFault(t, api.Input{Fuel: 99, Cells: start}, full, api.Pile, 9, 0)
	wantFault(t, api.Input{Fuel: 1, Cells: start, Draws: []uint16{4, 5}}, l, api.Spent, 1, 1)
}

// P4: Jump and If: on, back, not at all, and to just behind the last instruction.
func TestJumps(t *testing.T) {
	in := api.Input{Fuel: 99}
	set := func(v int) []api.Ins { return []api.Ins{ins(api.Push, v), ins(api.Store, 0)} }
	for _, c := range []struct {
		l     []api.Ins
		steps int
		cell  uint16
	}{
		{join([]api.Ins{ins(api.Jump, 0)}, set(5)), 3, 5},
		{join([]api.Ins{ins(api.Jump, 2)}, set(5)), 1, 0},
		{join([]api.Ins{ins(api.Jump, 2)}, set(5), set(6)), 3, 6},
		{join([]api.Ins{ins(api.Push, 0), ins(api.If, 2)}, set(5)), 4, 5},
		{join([]api.Ins{ins(api.Push, 1), ins(api.If, 2)}, set(5)), 2, 0},
		{join([]api.Ins{ins(api.Push, 65535), ins(api.If, 2)}, set(5)), 2, 0},
		{join([]api.Ins{ins(api.Push, 256), ins(api.If, 2)}, set(5)), 2, 0},
		{join([]api.Ins{ins(api.Jump, 3)}, set(5), []api.Ins{ins(api.End), ins(api.Jump, -4)}), 5, 5},
		{join([]api.Ins{ins(api.Jump, 3)}, set(5), []api.Ins{ins(api.End), ins(api.Push, 1), ins(api.If, -5)}), 6, 5},
		{join(set(5), []api.Ins{ins(api.End)}, set(6)), 3, 5},
		{join(set(5), []api.Ins{ins(api.Jump, 61)}, many(61, ins(api.Add))), 3, 5},
	} {
		if out := wantFine(t, in, c.l, c.steps); out.Cells[0] != c.cell {
			t.Errorf("%v: %v, want %d", c.l, out.Cells, c.cell)
		}
	}
}

// P4: an If pops, so the pile is empty behind it.
func TestIfPops(t *testing.T) {
	for v := range 2 {
		wantFault(t, api.Input{Fuel: 9}, []api.Ins{ins(api.Push, v), ins(api.If, 0), ins(api.Drop)}, api.Pile, 3, 0)
	}
}

// P4: the fuel: 0, just enough, one less, 1000; and no fuel that is none.
func TestFuel(t *testing.T) {
	one := []api.Ins{ins(api.Push, 1)}
	loop := []api.Ins{ins(api.Jump, -1)}
	in := func(fuel int) api.Input { return api.Input{Fuel: fuel, Cells: start} }
	wantFault(t, in(0), one, api.Spent, 0, 0)
	wantFault(t, in(0), []api.Ins{ins(api.End)}, api.Spent, 0, 0)
	wantFault(t, in(0), []api.Ins{ins(api.Add)}, api.Spent, 0, 0)
	wantFine(t, in(1), one, 1)
	wantFine(t, in(1), []api.Ins{ins(api.End)}, 1)
	wantFine(t, in(1), []api.Ins{ins(api.Jump, 0)}, 1)
	wantFault(t, in(1), []api.Ins{ins(api.Add)}, api.Pile, 1, 0)
	wantFault(t, in(1), []api.Ins{ins(api.Push, 1), ins(api.End)}, api.Spent, 1, 0)
	wantFine(t, in(2), []api.Ins{ins(api.Push, 1), ins(api.End)}, 2)
	wantFault(t, in(5), loop, api.Spent, 5, 0)
	wantFault(t, in(999), loop, api.Spent, 999, 0)
	wantFault(t, in(1000), loop, api.Spent, 1000, 0)
	// a round is 6 steps: 166 of them fit into the fuel, 167 do not
	count := []api.Ins{ins(api.Load, 0), ins(api.Push, 1), ins(api.Sub), ins(api.Copy), ins(api.Store, 0), ins(api.If, -6)}
	out := wantFine(t, api.Input{Fuel: 1000, Cells: [8]uint16{166}}, count, 996)
	if out.Cells != [8]uint16{} {
		t.Errorf("counting down: %v", out.Cells)
	}
	wantFault(t, api.Input{Fuel: 1000, Cells: [8]uint16{167}}, count, api.Spent, 1000, 0)
	wantFault(t, api.Input{Fuel: 995, Cells: [8]uint16{166}}, count, api.Spent, 995, 0)
	for _, fuel := range []int{-1, 1001, math.MinInt, math.MaxInt, -65536, 65536} {
		if out, e := vm.Run("\x00", in(fuel)); e != api.ErrFuel || !blank(out) {
			t.Errorf("the fuel %d: %+v, %d, want ErrFuel", fuel, out, e)
		}
		if out, e := vm.Run("\x1c", in(fuel)); e != api.ErrCode || !blank(out) {
			t.Errorf("the fuel %d of no program: %+v, %d, want ErrCode", fuel, out, e)
		}
	}
}

// P4: how each Op takes from the pile and lays onto it, at each height of the pile.
func TestPile(t *testing.T) {
	// pops and pushes of each Op
	moves := [28][2]int{
		api.Push: {0, 1}, api.Load: {0, 1}, api.Store: {1, 0},
		api.Add: {2, 1}, api.Sub: {2, 1}, api.Mul: {2, 1}, api.Div: {2, 1}, api.And: {2, 1}, api.Xor: {2, 1},
		api.Shl: {2, 1}, api.Shr: {2, 1}, api.Sar: {2, 1}, api.Less: {2, 1}, api.Under: {2, 1}, api.Same: {2, 1},
		api.If: {1, 0}, api.What: {0, 1}, api.Arg: {0, 1}, api.From: {0, 1}, api.Route: {0, 1}, api.Draw: {0, 1},
		api.Char: {1, 0}, api.Show: {1, 0}, api.Send: {1, 0}, api.Copy: {1, 2}, api.Drop: {1, 0},
	}
	for op, move := range moves {
		for height := range 9 {
			l := join(many(height, ins(api.Push, 1)), []api.Ins{ins(uint8(op))})
			left := height - move[0] + move[1]
			if height < move[0] || left > 8 {
				wantFault(t, api.Input{Fuel: 99, Cells: start}, l, api.Pile, height+1, 0)
				continue
			}
			wantFine(t, api.Input{Fuel: 99, Cells: start}, l, height+1)
			if uint8(op) == api.End {
				continue
			}
			wantFine(t, api.Input{Fuel: 99, Cells: start}, join(l, many(left, ins(api.Drop))), height+1+left)
			wantFault(t, api.Input{Fuel: 99, Cells: start}, join(l, many(left+1, ins(api.Drop))), api.Pile, height+2+left, 0)
		}
	}
}

// P4: the pile gives back what came last first, and Copy the same number twice.
func TestPileOrder(t *testing.T) {
	var l []api.Ins
	for v := range 8 {
		l = append(l, ins(api.Push, 100+v))
	}
	for cell := range 8 {
		l = append(l, ins(api.Store, cell))
	}
	if out := wantFine(t, api.Input{Fuel: 99}, l, 16); out.Cells != [8]uint16{107, 106, 105, 104, 103, 102, 101, 100} {
		t.Errorf("eight numbers: %v", out.Cells)
	}
	l = []api.Ins{ins(api.Push, 1), ins(api.Push, 2), ins(api.Copy), ins(api.Store, 0), ins(api.Store, 1), ins(api.Store, 2)}
	if out := wantFine(t, api.Input{Fuel: 99}, l, 6); out.Cells != [8]uint16{2, 2, 1} {
		t.Errorf("Copy: %v", out.Cells)
	}
}

// spell: the instructions that join these characters to the text and show it.
func spell(key int, chars ...int) []api.Ins {
	var l []api.Ins
	for _, v := range chars {
		l = append(l, ins(api.Push, v), ins(api.Char))
	}
	return append(l, ins(api.Push, key), ins(api.Show))
}

// P4: the characters of numbers, where their bytes become more and where they are none.
func TestCharacters(t *testing.T) {
	for v, want := range map[int]string{
		0: "\x00", 104: "h", 127: "\x7f", 128: "\xc2\x80", 233: "\xc3\xa9", 2047: "\xdf\xbf", 2048: "\xe0\xa0\x80",
		55295: "\xed\x9f\xbf", 55296: "\xef\xbf\xbd", 56320: "\xef\xbf\xbd", 57343: "\xef\xbf\xbd", 57344: "\xee\x80\x80",
		65279: "\xef\xbb\xbf", 65533: "\xef\xbf\xbd", 65534: "\xef\xbf\xbe", 65535: "\xef\xbf\xbf",
	} {
		out := wantFine(t, api.Input{Fuel: 9, Cells: start}, spell(5, v), 4)
		if !slices.Equal(out.Shows, []api.Shown{{Key: 5, Text: want}}) || out.Cells != start {
			t.Errorf("the character of %d: %x, want %x", v, out.Shows, want)
		}
	}
}

// P4: a text of 6 characters, however many bytes they have, and a 7th; a show makes it empty.
func TestText(t *testing.T) {
	in := api.Input{Fuel: 99, Cells: start}
	for v, want := range map[int]string{65: "A", 233: "\xc3\xa9", 55296: "\xef\xbf\xbd", 0: "\x00"} {
		six := []int{v, v, v, v, v, v}
		out := wantFine(t, in, join(spell(1, six...), spell(2, six...), spell(3)), 30)
		if !slices.Equal(out.Shows, []api.Shown{{Key: 1, Text: strings.Repeat(want, 6)}, {Key: 2, Text: strings.Repeat(want, 6)}, {Key: 3}}) {
			t.Errorf("six of %d: %x", v, out.Shows)
		}
		wantFault(t, in, spell(1, v, v, v, v, v, v, v), api.Long, 14, 0)
		wantFault(t, in, join(spell(1, six...), spell(2, v, v, v, v, v, v, v)), api.Long, 28, 0)
	}
	out := wantFine(t, in, join(spell(9, 97, 98, 99), []api.Ins{ins(api.Push, 65), ins(api.Char)}), 10)
	if !slices.Equal(out.Shows, []api.Shown{{Key: 9, Text: "abc"}}) {
		t.Errorf("a text that is not shown: %x", out.Shows)
	}
}

// P4: 8 shows and a 9th, and keys that come twice.
func TestShows(t *testing.T) {
	in := api.Input{Fuel: 99, Cells: start}
	var l []api.Ins
	var want []api.Shown
	for n := range 8 {
		l = append(l, spell(65535-n, 97+n)...)
		want = append(want, api.Shown{Key: uint16(65535 - n), Text: string(rune(97 + n))})
	}
	if out := wantFine(t, in, l, 32); !slices.Equal(out.Shows, want) || out.Sends != nil {
		t.Errorf("8 shows: %v", out)
	}
	wantFault(t, in, join(l, spell(3)), api.Many, 34, 0)
	wantFault(t, in, join(l, spell(65535)), api.Many, 34, 0)
	wantFault(t, in, join(l, []api.Ins{ins(api.Show)}), api.Pile, 33, 0)
	wantFault(t, in, join(spell(0), spell(0)), api.Twice, 4, 0)
	wantFault(t, in, join(spell(4, 97), spell(5, 98), spell(4, 99)), api.Twice, 12, 0)
	wantFault(t, in, join(l[:28], spell(65529)), api.Twice, 30, 0)
	if out := wantFine(t, in, join(spell(1, 97), spell(257, 97)), 8); len(out.Shows) != 2 {
		t.Errorf("keys that have the low byte in common: %v", out.Shows)
	}
}

// P4: 4 sends and a 5th; each topic, and the same one again.
func TestSends(t *testing.T) {
	in := api.Input{Fuel: 99, Cells: start}
	l := []api.Ins{ins(api.Push, 65535), ins(api.Send, 3), ins(api.Push, 0), ins(api.Send, 0), ins(api.Push, 300), ins(api.Send, 1), ins(api.Push, 300), ins(api.Send, 1)}
	out := wantFine(t, in, l, 8)
	if !slices.Equal(out.Sends, []api.Sent{{Topic: 3, Value: 65535}, {Topic: 0, Value: 0}, {Topic: 1, Value: 300}, {Topic: 1, Value: 300}}) || out.Shows != nil || out.Cells != start {
		t.Errorf("4 sends: %v", out)
	}
	wantFault(t, in, join(l, []api.Ins{ins(api.Push, 1), ins(api.Send, 2)}), api.Many, 10, 0)
	wantFault(t, in, join(l, []api.Ins{ins(api.Send, 2)}), api.Pile, 9, 0)
	out = wantFine(t, in, []api.Ins{ins(api.Push, 9), ins(api.Send, 2)}, 2)
	if !slices.Equal(out.Sends, []api.Sent{{Topic: 2, Value: 9}}) {
		t.Errorf("a send: %v", out.Sends)
	}
}

// P4: all that an instruction takes is popped ahead of any other fault of it.
func TestPopsComeFirst(t *testing.T) {
	in := api.Input{Fuel: 99, Cells: start}
	wantFault(t, in, []api.Ins{ins(api.Push, 0), ins(api.Div)}, api.Pile, 2, 0)
	wantFault(t, in, []api.Ins{ins(api.Div)}, api.Pile, 1, 0)
	six := many(12, ins(api.Push, 65))
	for i := 1; i < 12; i += 2 {
		six[i] = ins(api.Char)
	}
	wantFine(t, in, six, 12)
	wantFault(t, in, join(six, []api.Ins{ins(api.Char)}), api.Pile, 13, 0)
}

// P4: with a fault the cells are as they were, and nothing is shown or sent.
func TestFaultLeavesNothing(t *testing.T) {
	did := join([]api.Ins{ins(api.Push, 1), ins(api.Store, 0), ins(api.Draw), ins(api.Store, 7), ins(api.Push, 1), ins(api.Send, 1)}, spell(5, 97))
	in := api.Input{Fuel: 40, Cells: start, Draws: []uint16{8, 9}}
	out := wantFine(t, in, did, 10)
	if out.Cells[0] != 1 || out.Cells[7] != 8 || len(out.Shows) != 1 || len(out.Sends) != 1 || out.Draws != 1 {
		t.Errorf("without a fault: %+v", out)
	}
	wantFault(t, in, join(did, []api.Ins{ins(api.Jump, -1)}), api.Spent, 40, 1)
	wantFault(t, in, join(did, []api.Ins{ins(api.Drop)}), api.Pile, 11, 1)
	wantFault(t, in, join(did, []api.Ins{ins(api.Push, 3), ins(api.Push, 0), ins(api.Div)}), api.Zero, 13, 1)
	wantFault(t, in, join(did, spell(6, 97, 97, 97, 97, 97, 97, 97)), api.Long, 24, 1)
	wantFault(t, in, join(did, spell(5)), api.Twice, 12, 1)
	wantFault(t, in, join(did, spell(6), spell(7), spell(8), spell(9), spell(10), spell(11), spell(12), spell(13)), api.Many, 26, 1)
}
