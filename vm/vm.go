// Package vm: programs: their bytes, and what they do: see DOC.md.
package vm

import "hostel/api"

// Decode reads a program's bytes (P3).
func Decode(s string) ([]api.Ins, api.Errno, int) {
	var code []api.Ins
	at := 0
	for at < len(s) {
		x, whole := readIns(s, at)
		if !whole || len(code) == api.MaxCode || !standsAlone(x) {
			return nil, api.ErrCode, at
		}
		code = append(code, x)
		at += 1 + width(x.Op)
	}
	if len(code) == 0 {
		return nil, api.ErrCode, 0
	}
	at = 0
	for i, x := range code {
		if !landsInside(code, i) {
			return nil, api.ErrCode, at
		}
		at += 1 + width(x.Op)
	}
	return code, api.OK, 0
}

// Encode writes a program's bytes (P3).
func Encode(l []api.Ins) (string, api.Errno) {
	// The length is looked at first, so that a list of any length is refused at once.
	if len(l) < 1 || len(l) > api.MaxCode {
		return "", api.ErrCode
	}
	var bytes []byte
	for i, x := range l {
		// Only an operand that is the instruction's own is small enough to reckon a jump with.
		if !standsAlone(x) {
			return "", api.ErrCode
		}
		if !landsInside(l, i) {
			return "", api.ErrCode
		}
		bytes = appendIns(bytes, x)
	}
	return string(bytes), api.OK
}

// Run runs a program (P4).
func Run(code string, in api.Input) (api.Outcome, api.Errno) {
	program, e, _ := Decode(code)
	if e != api.OK {
		return api.Outcome{}, e
	}
	if in.Fuel < 0 || in.Fuel > api.MaxFuel {
		return api.Outcome{}, api.ErrFuel
	}
	m := machine{cells: in.Cells}
	m.run(program, in)
	return m.outcome(in.Cells), api.OK
}
