package vm_test

import (
	"math/rand"
	"slices"
	"testing"
	"unicode/utf8"

	"hostel/api"
	"hostel/vm"
)

// someBytes: bytes that are often, but not always, those of a program.
func someBytes(r *rand.Rand) string {
	b := make([]byte, r.Intn(90))
	for i := range b {
		switch r.Intn(12) {
		case 0:
			b[i] = byte(r.Intn(256))
		case 1:
			b[i] = byte(250 + r.Intn(6))
		case 2, 3, 4:
			b[i] = byte(r.Intn(4))
		default:
			b[i] = byte(r.Intn(28))
		}
	}
	return string(b)
}

// someProgram: a program, in which the pile is seldom empty.
func someProgram(r *rand.Rand) []api.Ins {
	l := make([]api.Ins, 1+r.Intn(64))
	for i := range l {
		op := uint8(r.Intn(28))
		if r.Intn(3) == 0 {
			op = api.Push
		}
		o := operands[op]
		a := o.low + r.Intn(o.high-o.low+1)
		if op == api.Jump || op == api.If {
			a = max(-128, min(127, r.Intn(len(l)+1)-i-1))
		}
		l[i] = api.Ins{Op: op, A: a}
	}
	return l
}

// P1, P3: Decode of any bytes ends, tells a place inside them, and Encode undoes it.
func TestAnyBytes(t *testing.T) {
	r := rand.New(rand.NewSource(1))
	for range 200000 {
		s := someBytes(r)
		l, e, at := vm.Decode(s)
		if e == api.OK {
			if got, again := vm.Encode(l); got != s || again != api.OK || at != 0 || len(l) < 1 || len(l) > 64 {
				t.Fatalf("Decode(%x) = %v, OK, %d, and Encode of that %x, %d", s, l, at, got, again)
			}
			continue
		}
		if e != api.ErrCode || l != nil || at < 0 || at > 0 && at >= len(s) {
			t.Fatalf("Decode(%x) = %v, %d, %d", s, l, e, at)
		}
		if out, e := vm.Run(s, api.Input{Fuel: 9, Cells: start}); e != api.ErrCode || !blank(out) {
			t.Fatalf("Run(%x) = %+v, %d", s, out, e)
		}
	}
}

// P1, P3: Encode of any list ends, and Decode undoes it.
func TestAnyList(t *testing.T) {
	r := rand.New(rand.NewSource(2))
	for range 100000 {
		l := someProgram(r)
		if r.Intn(2) == 0 {
			l[r.Intn(len(l))] = api.Ins{Op: uint8(r.Intn(256)), A: int(r.Uint64()) >> r.Intn(64)}
		}
		before := slices.Clone(l)
		s, e := vm.Encode(l)
		if !slices.Equal(l, before) {
			t.Fatalf("P2: Encode wrote into %v: %v", before, l)
		}
		if e != api.OK {
			if e != api.ErrCode || s != "" {
				t.Fatalf("Encode(%v) = %x, %d", l, s, e)
			}
			continue
		}
		if got, again, at := vm.Decode(s); !slices.Equal(got, l) || again != api.OK || at != 0 {
			t.Fatalf("Encode(%v) = %x, and Decode of that %v, %d, %d", l, s, got, again, at)
		}
	}
}

// lawful: an outcome that some run may come to.
func lawful(in api.Input, out api.Outcome) bool {
	if out.Steps < 0 || out.Steps > in.Fuel || out.Draws < 0 || out.Draws > len(in.Draws) || out.Draws > out.Steps || out.Fault > api.Twice {
		return false
	}
	if out.Fault != api.Fine {
		return out.Cells == in.Cells && out.Shows == nil && out.Sends == nil && (out.Fault != api.Spent || out.Steps == in.Fuel)
	}
	for i, s := range out.Shows {
		same := slices.IndexFunc(out.Shows, func(o api.Shown) bool { return o.Key == s.Key })
		if same != i || !utf8.ValidString(s.Text) || utf8.RuneCountInString(s.Text) > 6 {
			return false
		}
	}
	for _, s := range out.Sends {
		if s.Topic > 3 {
			return false
		}
	}
	return len(out.Shows) <= 8 && len(out.Sends) <= 4
}

func alike(a, b api.Outcome) bool {
	return a.Fault == b.Fault && a.Steps == b.Steps && a.Draws == b.Draws && a.Cells == b.Cells && slices.Equal(a.Shows, b.Shows) && slices.Equal(a.Sends, b.Sends)
}

// P1, P2, P4: any program on any input ends lawfully, the same way each time, and with no draw written.
func TestAnyRun(t *testing.T) {
	r := rand.New(rand.NewSource(3))
	seen := [7]int{}
	for range 100000 {
		code := bytesOf(t, someProgram(r))
		room := []uint16{1, 2, 3, 4, 5, 6, 7, 8}
		in := api.Input{Fuel: r.Intn(1001), Cells: start, Event: api.Event{What: uint8(r.Intn(256)), Arg: uint16(r.Intn(65536)), From: uint8(r.Intn(256))}, Route: uint8(r.Intn(256)), Draws: room[:r.Intn(9)]}
		out, e := vm.Run(code, in)
		if e != api.OK || !lawful(in, out) {
			t.Fatalf("Run(%x, %+v) = %+v, %d", code, in, out, e)
		}
		if !slices.Equal(room, []uint16{1, 2, 3, 4, 5, 6, 7, 8}) {
			t.Fatalf("P2: Run(%x) wrote into the draws: %v", code, room)
		}
		if again, _ := vm.Run(code, in); !alike(out, again) {
			t.Fatalf("P2: Run(%x) = %+v, and again %+v", code, out, again)
		}
		seen[out.Fault]++
	}
	if seen[api.Fine] == 0 || seen[api.Spent] == 0 || seen[api.Pile] == 0 {
		t.Errorf("the programs of this test are too much alike: %v", seen)
	}
}

// scribble: writes into a list and the spare room behind it.
func scribble[T any](l []T, v T) {
	l = l[:cap(l)]
	for i := range l {
		l[i] = v
	}
}

// P2: what comes out is the caller's: writing into it changes no other answer.
func TestAnswersAreFresh(t *testing.T) {
	code := bytesOf(t, join(spell(1, 97), spell(2, 98), spell(3), []api.Ins{ins(api.Push, 4), ins(api.Send, 1), ins(api.Push, 5), ins(api.Send, 2), ins(api.Push, 6), ins(api.Send, 3)}))
	in := api.Input{Fuel: 99}
	first, _ := vm.Run(code, in)
	second, _ := vm.Run(code, in)
	scribble(first.Shows, api.Shown{Key: 99, Text: "x"})
	scribble(first.Sends, api.Sent{Topic: 99})
	third, _ := vm.Run(code, in)
	for _, out := range []api.Outcome{second, third} {
		if !slices.Equal(out.Shows, []api.Shown{{Key: 1, Text: "a"}, {Key: 2, Text: "b"}, {Key: 3}}) || !slices.Equal(out.Sends, []api.Sent{{Topic: 1, Value: 4}, {Topic: 2, Value: 5}, {Topic: 3, Value: 6}}) {
			t.Errorf("P2: an outcome beside one that was written into: %+v", out)
		}
	}
	one, _, _ := vm.Decode(code)
	two, _, _ := vm.Decode(code)
	scribble(one, api.Ins{Op: 99})
	if got, e := vm.Encode(two); got != code || e != api.OK {
		t.Errorf("P2: a program beside one that was written into: %v", two)
	}
}

// P2: Encode reads no further than its list, and writes neither into it nor into its spare room.
func TestEncodeLeavesRoom(t *testing.T) {
	room := []api.Ins{ins(api.Push, 300), ins(api.End), ins(99, 99), ins(98, 98)}
	before := slices.Clone(room)
	if s, e := vm.Encode(room[:2]); s != "\x01\x01\x2c\x00" || e != api.OK {
		t.Errorf("Encode: %x, %d", s, e)
	}
	if !slices.Equal(room, before) {
		t.Errorf("P2: Encode wrote into %v: %v", before, room)
	}
}
