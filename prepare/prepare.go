// Package prepare: functions made ready to be run: of each block it is known where one goes on.
package prepare

import (
	"loom/code"
	"loom/module"
)

// Function is a function of which the module fits.
type Function struct {
	Type   module.Type
	Locals int     // how many, without the params
	Blocks []Block // the first one is the code itself
	Steps  []Step  // all but the code's own end, which costs nothing: it is come to behind the last one
}

// Step is an instruction, as far as running it needs it.
type Step struct {
	Word   byte
	Block  int      // of block, loop, if: which of the function's blocks it begins
	Number uint32   // a label (of br_table the last one), an index, or an offset
	Labels []uint32 // of br_table: all but the last one
	Value  int64    // of a const
}

// Block is a part of a code that has a label.
type Block struct {
	Loop    bool
	Takes   int // how many values go in
	Carries int // how many values a jump to its label takes along
	To      int // the step at which a jump to its label goes on; the code itself has none, as such a jump leaves the function
	Else    int // of an if: the step behind its else; 0 if it has none
}

// Functions makes all functions of a module that fits ready.
func Functions(m *module.Module) []Function {
	var all []Function
	for i, c := range m.Codes {
		f := Function{Type: m.Types[m.Funcs[i].Value], Locals: len(c.Locals)}
		f.prepare(m.Types, c)
		all = append(all, f)
	}
	return all
}

// prepare makes steps of a code's instructions.
func (f *Function) prepare(types []module.Type, c module.Code) {
	f.Blocks = []Block{{Carries: len(f.Type.Out)}}
	open := []int{0}
	for in := range c.Instructions {
		inner := open[len(open)-1]
		switch in.Word {
		case code.Block, code.Loop, code.If:
			inner = len(f.Blocks)
			open = append(open, inner)
			f.Blocks = append(f.Blocks, blockOf(in, types, len(f.Steps)+1))
		case code.Else:
			f.Blocks[inner].Else = len(f.Steps) + 1
		case code.End:
			open = open[:len(open)-1]
			if len(open) == 0 {
				return
			}
			f.endBlock(inner)
		}
		f.Steps = append(f.Steps, stepOf(in, inner))
	}
}

// blockOf gives a block, of which the label of a loop alone is known ahead of its end: the step behind its word.
func blockOf(in code.Instruction, types []module.Type, behind int) Block {
	t := module.Type{Out: in.Gives}
	if in.Typed {
		t = types[in.Number.Value]
	}
	if in.Word == code.Loop {
		return Block{Loop: true, Takes: len(t.In), Carries: len(t.In), To: behind}
	}
	return Block{Takes: len(t.In), Carries: len(t.Out)}
}

// endBlock tells a block where its end is: a jump to the label of one that is no loop goes on behind it.
func (f *Function) endBlock(which int) {
	if !f.Blocks[which].Loop {
		f.Blocks[which].To = len(f.Steps) + 1
	}
}

func stepOf(in code.Instruction, block int) Step {
	s := Step{Word: in.Word, Block: block, Number: in.Number.Value, Value: in.Value}
	for _, label := range in.Labels {
		s.Labels = append(s.Labels, label.Value)
	}
	return s
}
