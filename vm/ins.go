package vm

import "hostel/api"

// width is how many bytes the operand of an Op takes.
func width(op uint8) int {
	switch op {
	case api.Push:
		return 2
	case api.Load, api.Store, api.Jump, api.If, api.Send:
		return 1
	}
	return 0
}

// readIns reads the instruction whose Op is at a place inside s; false, if its operand is cut off.
func readIns(s string, at int) (api.Ins, bool) {
	op := s[at]
	if width(op) >= len(s)-at {
		return api.Ins{}, false
	}
	a := 0
	switch op {
	case api.Push:
		a = int(s[at+1])<<8 | int(s[at+2])
	case api.Jump, api.If:
		a = int(int8(s[at+1]))
	case api.Load, api.Store, api.Send:
		a = int(s[at+1])
	}
	return api.Ins{Op: op, A: a}, true
}

// appendIns writes an instruction that stands alone behind the bytes b.
func appendIns(b []byte, x api.Ins) []byte {
	b = append(b, x.Op)
	if width(x.Op) == 2 {
		b = append(b, byte(x.A>>8))
	}
	if width(x.Op) > 0 {
		b = append(b, byte(x.A))
	}
	return b
}

// standsAlone says whether an instruction is right by itself, wherever it stands.
func standsAlone(x api.Ins) bool {
	switch x.Op {
	case api.Push:
		return x.A >= 0 && x.A <= 65535
	case api.Load, api.Store:
		return x.A >= 0 && x.A < api.MaxCells
	case api.Jump, api.If:
		return x.A >= -128 && x.A <= 127
	case api.Send:
		return x.A >= 0 && x.A < api.MaxTopics
	}
	return x.Op <= api.Drop && x.A == 0
}

// landsInside says whether the instruction i, which stands alone, goes nowhere but where a run may go.
func landsInside(l []api.Ins, i int) bool {
	x := l[i]
	if x.Op != api.Jump && x.Op != api.If {
		return true
	}
	to := i + 1 + x.A
	return to >= 0 && to <= len(l)
}
