package assemble

import (
	"math/bits"

	"loom/api"
	"loom/code"
	"loom/scan"
	"loom/token"
)

// behind takes what stands behind an instruction's word.
func (f *function) behind(word byte) code.Instruction {
	in := code.Instruction{Word: word}
	switch word {
	case code.BrTable:
		// One more than there may be is left, and can be no instruction.
		for len(in.Labels) < api.MaxLabels && isLabel(f.Second()) {
			in.Labels = append(in.Labels, f.label())
		}
		fallthrough
	case code.Br, code.BrIf:
		in.Number = f.label()
	case code.Call:
		in.Number, _ = f.index(f.known.funcs)
	case code.LocalGet, code.LocalSet, code.LocalTee:
		in.Number, _ = f.index(f.names)
	case code.GlobalGet, code.GlobalSet:
		in.Number, _ = f.index(f.known.globals)
	case code.CallIndirect:
		in.Number.Value = f.typeIndex(f.use(nil))
	case code.I32Load, code.I64Load, code.I32Load8S, code.I32Load8U, code.I32Store, code.I64Store, code.I32Store8:
		in.Number.Value = f.offset()
		in.Align = f.align(word)
	case code.I32Const:
		in.Value = f.signed(32)
	case code.I64Const:
		in.Value = f.signed(64)
	}
	return in
}

// isLabel tells whether a token is a label.
func isLabel(t token.Token) bool {
	_, number := t.U()
	_, id := t.ID()
	return number || id
}

// label takes a label: a number, or the id of a block that is open.
func (f *function) label() scan.Number {
	name, ok := f.Peek().ID()
	if !ok {
		return f.number()
	}
	t := f.Take(token.Word)
	innermost := len(f.labels) - 1
	for outward := range f.labels {
		if f.labels[innermost-outward] == name {
			return scan.Number{Value: uint32(outward)}
		}
	}
	f.notice(api.ErrName, t)
	return scan.Number{}
}

// offset takes an offset; it is 0, if none is told.
func (f *function) offset() uint32 {
	n, ok := f.Peek().Setting("offset")
	if !ok {
		return 0
	}
	f.Take(token.Word)
	return n
}

// align takes an align, which a text tells as the number of bytes.
func (f *function) align(word byte) uint32 {
	n, ok := f.Peek().Setting("align")
	if !ok || bits.OnesCount32(n) != 1 {
		return code.UsualAlign(word)
	}
	f.Take(token.Word)
	return uint32(bits.TrailingZeros32(n))
}
