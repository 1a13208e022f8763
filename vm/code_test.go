package vm_test

import (
	"math"
	"slices"
	"strings"
	"testing"

	"hostel/api"
	"hostel/vm"
)

// ins: an instruction, with its operand if it has one.
func ins(op uint8, a ...int) api.Ins {
	x := api.Ins{Op: op}
	if len(a) > 0 {
		x.A = a[0]
	}
	return x
}

// many: n times one instruction.
func many(n int, x api.Ins) []api.Ins { return slices.Repeat([]api.Ins{x}, n) }

// join: lists of instructions as one program.
func join(parts ...[]api.Ins) []api.Ins { return slices.Concat(parts...) }

// operand: how an Op's operand looks; the table of the document, written down once more.
type operand struct{ bytes, low, high int }

var operands = [28]operand{
	api.Push:  {2, 0, 65535},
	api.Load:  {1, 0, 7},
	api.Store: {1, 0, 7},
	api.Jump:  {1, -128, 127},
	api.If:    {1, -128, 127},
	api.Send:  {1, 0, 3},
}

func wantProgram(t *testing.T, s string, want []api.Ins) {
	t.Helper()
	if l, e, at := vm.Decode(s); !slices.Equal(l, want) || e != api.OK || at != 0 {
		t.Errorf("Decode(%.60x) = %v, %d, %d, want %v, OK, 0", s, l, e, at, want)
	}
	if got, e := vm.Encode(want); got != s || e != api.OK {
		t.Errorf("Encode(%v) = %x, %d, want %x, OK", want, got, e, s)
	}
}

func wantPlace(t *testing.T, s string, want int) {
	t.Helper()
	if l, e, at := vm.Decode(s); l != nil || e != api.ErrCode || at != want {
		t.Errorf("Decode(%.60x) = %v, %d, %d, want nil, ErrCode, %d", s, l, e, at, want)
	}
	if out, e := vm.Run(s, api.Input{Fuel: 5, Cells: [8]uint16{1}}); e != api.ErrCode || !blank(out) {
		t.Errorf("Run(%.60x) = %+v, %d, want ErrCode", s, out, e)
	}
}

func wantNoProgram(t *testing.T, l []api.Ins) {
	t.Helper()
	if s, e := vm.Encode(l); s != "" || e != api.ErrCode {
		t.Errorf("Encode(%v) = %x, %d, want ErrCode", l, s, e)
	}
}

func blank(out api.Outcome) bool {
	return out.Fault == 0 && out.Steps == 0 && out.Draws == 0 && out.Cells == [8]uint16{} && out.Shows == nil && out.Sends == nil
}

// P3: every Op alone and with each of its operands, both ways.
func TestEachInstruction(t *testing.T) {
	for op, o := range operands {
		for a := o.low; a <= o.high; a++ {
			x := ins(uint8(op), a)
			bytes := []byte{x.Op}
			switch o.bytes {
			case 1:
				bytes = append(bytes, byte(a))
			case 2:
				bytes = append(bytes, byte(a>>8), byte(a))
			}
			if x.Op != api.Jump && x.Op != api.If {
				wantProgram(t, string(bytes), []api.Ins{x})
			} else if a == 0 || a == -1 {
				wantProgram(t, string(bytes), []api.Ins{x})
			} else {
				wantPlace(t, string(bytes), 0)
				wantNoProgram(t, []api.Ins{x})
			}
		}
	}
}

// P3: operands that are not the instruction's.
func TestWrongOperand(t *testing.T) {
	for op, o := range operands {
		for _, a := range []int{o.low - 1, o.high + 1, math.MinInt, math.MaxInt, o.low - 65536, o.high + 65536, o.low + 256*65536} {
			wantNoProgram(t, []api.Ins{ins(uint8(op), a)})
			wantNoProgram(t, []api.Ins{ins(api.End), ins(uint8(op), a), ins(api.End)})
		}
	}
	for a := 8; a < 256; a++ {
		wantPlace(t, "\x00\x02"+string([]byte{byte(a)}), 1)
		wantPlace(t, "\x00\x00\x03"+string([]byte{byte(a)})+"\x00", 2)
	}
	for a := 4; a < 256; a++ {
		wantPlace(t, "\x01\x00\x00\x19"+string([]byte{byte(a)}), 3)
	}
}

// P3: an operand that is cut off, behind other instructions too.
func TestCutOff(t *testing.T) {
	for op, o := range operands {
		for n := range o.bytes {
			cut := string([]byte{byte(op)}) + strings.Repeat("\x00", n)
			wantPlace(t, cut, 0)
			wantPlace(t, "\x1b\x01\x00\x07"+cut, 4)
		}
	}
}

// P3: Ops that are none.
func TestNoSuchOp(t *testing.T) {
	for op := 28; op < 256; op++ {
		s := string([]byte{byte(op)})
		wantPlace(t, s, 0)
		wantPlace(t, s+"\x00\x00", 0)
		wantPlace(t, "\x01\x1c\xff\x02\x03"+s, 5)
		wantNoProgram(t, []api.Ins{ins(uint8(op))})
		wantNoProgram(t, []api.Ins{ins(api.End), ins(uint8(op), 1)})
	}
}

// P3: no instruction, the 64th and the 65th.
func TestHowMany(t *testing.T) {
	wantPlace(t, "", 0)
	wantNoProgram(t, nil)
	wantNoProgram(t, []api.Ins{})
	push := "\x01\x01\x02"
	wantProgram(t, strings.Repeat(push, 64), many(64, ins(api.Push, 258)))
	wantPlace(t, strings.Repeat(push, 65), 192)
	wantPlace(t, strings.Repeat(push, 64)+"\x00", 192)
	wantPlace(t, strings.Repeat(push, 64)+"\xff", 192)
	wantPlace(t, strings.Repeat(push, 64)+"\x01", 192)
	wantPlace(t, strings.Repeat(push, 63)+"\x00\x00\x1c", 190)
	wantPlace(t, strings.Repeat("\x00", 1<<20), 64)
	wantNoProgram(t, many(65, ins(api.End)))
	wantNoProgram(t, many(1<<16, ins(api.End)))
}

// P3: where a Jump or an If may go: from just behind the last instruction back to the first.
func TestWhereJumpsGo(t *testing.T) {
	for _, op := range []uint8{api.Jump, api.If} {
		for _, n := range []int{1, 2, 5, 63, 64} {
			for i := range n {
				for a := -128; a <= 127; a++ {
					l := many(n, ins(api.Push, 7))
					l[i] = ins(op, a)
					s := strings.Repeat("\x01\x00\x07", i) + string([]byte{op, byte(a)}) + strings.Repeat("\x01\x00\x07", n-1-i)
					if to := i + 1 + a; 0 <= to && to <= n {
						wantProgram(t, s, l)
					} else {
						wantPlace(t, s, 3*i)
						wantNoProgram(t, l)
					}
				}
			}
		}
	}
}

// P3: which of several wrong instructions is told.
func TestFirstWrong(t *testing.T) {
	for _, c := range []struct {
		s  string
		at int
	}{
		{"\x10\x02\x00", 0},
		{"\x10\x7f\x11\x80", 0},
		{"\x00\x11\x7f\x10\x7f", 1},
		{"\x10\x00\x11\x05\x10\x80", 2},
		{"\x10\x02\x1c", 2},
		{"\x10\x7f\x02\x08\x1c", 2},
		{"\x10\x7f\x00\x01\x00", 3},
		{"\x10\x7f\x00\x19\x04", 3},
		{"\x10\x7f" + strings.Repeat("\x00", 64), 65},
		{"\x10\x7f" + strings.Repeat("\x00", 63), 0},
		{"\x01\x10\x7f\x10\x7f", 3},
	} {
		wantPlace(t, c.s, c.at)
	}
}

// P3: the examples of the document.
func TestExamplesOfBytes(t *testing.T) {
	wantProgram(t, "\x01\x01\x2c", []api.Ins{ins(api.Push, 300)})
	wantProgram(t, "\x10\x01\x00", []api.Ins{ins(api.Jump, 1), ins(api.End)})
	wantProgram(t, "\x10\xff", []api.Ins{ins(api.Jump, -1)})
	wantProgram(t, "\x00\x10\xfe", []api.Ins{ins(api.End), ins(api.Jump, -2)})
	wantPlace(t, "\x1c", 0)
	wantPlace(t, "\x00\x02\x08", 1)
	wantPlace(t, "\x00\x01\x05", 1)
	wantPlace(t, "\x10\x02\x00", 0)
	wantPlace(t, "\x10\xfe", 0)
}
