package code

import (
	"loom/scan"
	"loom/write"
)

// Write writes an instruction with what stands behind its byte.
func (in Instruction) Write(w *write.Writer) {
	w.Bytes(in.Word)
	switch in.Word {
	case Block, Loop, If:
		in.writeBlock(w)
	case BrTable:
		write.List(w, in.Labels, WriteNumber)
		w.U(in.Number.Value)
	case I32Load, I64Load, I32Load8S, I32Load8U, I32Store, I64Store, I32Store8:
		w.U(in.Align)
		fallthrough
	case Br, BrIf, Call, LocalGet, LocalSet, LocalTee, GlobalGet, GlobalSet:
		w.U(in.Number.Value)
	case CallIndirect:
		w.U(in.Number.Value)
		fallthrough
	case MemorySize, MemoryGrow:
		w.Bytes(0)
	case I32Const, I64Const:
		w.S(in.Value)
	}
}

// writeBlock writes what tells what a block takes and gives.
func (in Instruction) writeBlock(w *write.Writer) {
	switch {
	case in.Typed:
		w.S(int64(in.Number.Value))
	case len(in.Gives) > 0:
		WriteKind(w, in.Gives[0])
	default:
		w.Bytes(nothing)
	}
}

// WriteNumber writes a U that was read, as short as it can be.
func WriteNumber(w *write.Writer, n scan.Number) { w.U(n.Value) }

// WriteKind writes the byte of a kind.
func WriteKind(w *write.Writer, k Kind) { w.Bytes(byte(k)) }
