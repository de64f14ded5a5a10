package code

import (
	"iter"

	"loom/api"
	"loom/scan"
)

// Instruction is one of a code, with what stands behind its word.
type Instruction struct {
	At     int           // the place of its byte
	Behind int           // the place behind it
	Word   byte          // its byte
	Typed  bool          // of a block: Number is its type's index
	Gives  []Kind        // of a block without a type
	Align  uint32        // of a load or store
	Number scan.Number   // a label (of br_table the last one), an index, or an offset
	Labels []scan.Number // of br_table: all but the last one
	Value  int64         // of a const
}

// Instructions tells the instructions from where a reader stands up to the code's own end, that one too. It gives up where one cannot stand.
func Instructions(from scan.Reader) iter.Seq[Instruction] {
	return func(yield func(Instruction) bool) {
		r := from
		var open []byte
		for {
			in := Instruction{At: r.At()}
			in.Word = r.Byte()
			last := in.Word == End && len(open) == 0
			if !last {
				open = nest(open, in)
			}
			takeBehind(&r, &in)
			in.Behind = r.At()
			if !yield(in) || last {
				return
			}
		}
	}
}

// nest gives the words of the blocks that are open behind an instruction.
func nest(open []byte, in Instruction) []byte {
	inner := len(open) - 1
	switch in.Word {
	case Block, Loop, If:
		if len(open) == api.MaxNest {
			scan.Refuse(in.At)
		}
		return append(open, in.Word)
	case Else:
		// The else takes the place of its if, so that a second one finds none.
		if inner < 0 || open[inner] != If {
			scan.Refuse(in.At)
		}
		return append(open[:inner], Else)
	case End:
		return open[:inner]
	}
	return open
}

// takeBehind takes what stands behind an instruction's byte.
func takeBehind(r *scan.Reader, in *Instruction) {
	switch in.Word {
	case Block, Loop, If:
		takeBlock(r, in)
	case BrTable:
		for range r.Count(api.MaxLabels) {
			in.Labels = append(in.Labels, r.U())
		}
		in.Number = r.U()
	case I32Load, I64Load, I32Load8S, I32Load8U, I32Store, I64Store, I32Store8:
		in.Align = r.U().Value
		fallthrough
	case Br, BrIf, Call, LocalGet, LocalSet, LocalTee, GlobalGet, GlobalSet:
		in.Number = r.U()
	case CallIndirect:
		in.Number = r.U()
		fallthrough
	case MemorySize, MemoryGrow:
		r.One(0)
	case I32Const:
		in.Value = r.S(32)
	case I64Const:
		in.Value = r.S(64)
	default:
		if !bare(in.Word) {
			scan.Refuse(in.At)
		}
	}
}

// takeBlock takes what tells what a block takes and gives.
func takeBlock(r *scan.Reader, in *Instruction) {
	at := r.At()
	switch b := r.Peek(); b {
	case byte(I32), byte(I64):
		in.Gives = []Kind{Kind(b)}
		fallthrough
	case nothing:
		r.Byte()
	default:
		index := r.S(33)
		if index < 0 {
			scan.Refuse(at)
		}
		in.Typed = true
		in.Number = scan.Number{Value: uint32(index), At: at}
	}
}
