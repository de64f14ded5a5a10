package fit

import (
	"slices"

	"loom/api"
	"loom/code"
	"loom/fault"
	"loom/module"
	"loom/scan"
)

// checkCode goes through a function's code with a stack of kinds.
func checkCode(m *module.Module, function int) {
	t := typeOf(m, function)
	c := m.Codes[function]
	b := &body{module: m, locals: slices.Concat(t.In, c.Locals)}
	b.enter(code.Block, module.Type{Out: t.Out})
	for in := range c.Instructions {
		b.at = in.At
		b.check(in)
	}
}

// check looks at one instruction: its indices ahead of its kinds.
func (b *body) check(in code.Instruction) {
	switch {
	case in.Word <= code.End:
		b.checkBlock(in)
	case in.Word <= code.CallIndirect:
		b.checkJump(in)
	case in.Word <= code.GlobalSet:
		b.checkVariable(in)
	case in.Word <= code.MemoryGrow:
		b.checkMemory(in)
	default:
		b.checkNumber(in.Word)
	}
}

func (b *body) checkBlock(in code.Instruction) {
	switch in.Word {
	case code.Unreachable:
		b.cutOff()
	case code.Block, code.Loop:
		b.enter(in.Word, b.blockType(in))
	case code.If:
		t := b.blockType(in)
		b.take(code.I32)
		b.enter(in.Word, t)
	case code.Else:
		left := b.leave()
		b.put(left.takes...)
		b.enter(in.Word, module.Type{In: left.takes, Out: left.gives})
	case code.End:
		left := b.leave()
		if left.word == code.If && !slices.Equal(left.takes, left.gives) {
			b.refuseKinds()
		}
		b.put(left.gives...)
	}
}

// blockType gives what a block takes and gives.
func (b *body) blockType(in code.Instruction) module.Type {
	if in.Typed {
		return b.typeAt(in.Number)
	}
	return module.Type{Out: in.Gives}
}

// typeAt gives the type of an index, which must be there.
func (b *body) typeAt(index scan.Number) module.Type {
	return b.module.Types[there(index, len(b.module.Types))]
}

func (b *body) checkJump(in code.Instruction) {
	switch in.Word {
	case code.Br:
		b.take(b.label(in.Number)...)
		b.cutOff()
	case code.BrIf:
		kinds := b.label(in.Number)
		b.take(code.I32)
		b.take(kinds...)
		b.put(kinds...)
	case code.BrTable:
		b.checkTable(in)
	case code.Return:
		b.take(b.blocks[0].gives...)
		b.cutOff()
	case code.Call:
		b.call(typeOf(b.module, there(in.Number, len(b.module.Funcs))))
	case code.CallIndirect:
		b.need(len(b.module.Tables))
		t := b.typeAt(in.Number)
		b.take(code.I32)
		b.call(t)
	}
}

// label gives the kinds that a label takes.
func (b *body) label(index scan.Number) []code.Kind {
	outward := there(index, len(b.blocks))
	return b.blocks[len(b.blocks)-1-outward].labelTakes()
}

func (b *body) checkTable(in code.Instruction) {
	var others [][]code.Kind
	for _, index := range in.Labels {
		others = append(others, b.label(index))
	}
	last := b.label(in.Number)
	b.take(code.I32)
	for _, kinds := range others {
		if len(kinds) != len(last) {
			b.refuseKinds()
		}
		b.lookFor(kinds)
	}
	b.take(last...)
	b.cutOff()
}

func (b *body) call(t module.Type) {
	b.take(t.In...)
	b.put(t.Out...)
}

// need makes sure that there is what the instruction works on.
func (b *body) need(many int) {
	if many == 0 {
		fault.GiveUp(api.ErrIndex, b.at)
	}
}

func (b *body) checkVariable(in code.Instruction) {
	switch in.Word {
	case code.Drop:
		b.takeAny()
	case code.Select:
		b.checkSelect()
	case code.GlobalGet:
		b.put(b.global(in.Number).Kind)
	case code.GlobalSet:
		g := b.global(in.Number)
		if !g.Settable {
			b.refuseKinds()
		}
		b.take(g.Kind)
	default:
		b.checkLocal(in)
	}
}

func (b *body) checkSelect() {
	b.take(code.I32)
	second := b.takeAny()
	first := b.takeAny()
	if first == code.Unknown {
		first = second
	}
	if second != code.Unknown && second != first {
		b.refuseKinds()
	}
	b.put(first)
}

func (b *body) global(index scan.Number) module.Global {
	return b.module.Globals[there(index, len(b.module.Globals))]
}

func (b *body) checkLocal(in code.Instruction) {
	kind := b.locals[there(in.Number, len(b.locals))]
	if in.Word != code.LocalGet {
		b.take(kind)
	}
	if in.Word != code.LocalSet {
		b.put(kind)
	}
}

func (b *body) checkMemory(in code.Instruction) {
	b.need(len(b.module.Memories))
	switch in.Word {
	case code.MemorySize:
		b.put(code.I32)
	case code.MemoryGrow:
		b.take(code.I32)
		b.put(code.I32)
	case code.I64Load:
		b.load(in, code.I64)
	case code.I32Load, code.I32Load8S, code.I32Load8U:
		b.load(in, code.I32)
	case code.I64Store:
		b.store(in, code.I64)
	case code.I32Store, code.I32Store8:
		b.store(in, code.I32)
	}
}

func (b *body) load(in code.Instruction, kind code.Kind) {
	b.align(in)
	b.take(code.I32)
	b.put(kind)
}

func (b *body) store(in code.Instruction, kind code.Kind) {
	b.align(in)
	b.take(code.I32, kind)
}

func (b *body) align(in code.Instruction) {
	if in.Align > code.UsualAlign(in.Word) {
		b.refuseKinds()
	}
}

func (b *body) checkNumber(word byte) {
	switch {
	case word == code.I32Const:
		b.put(code.I32)
	case word == code.I64Const:
		b.put(code.I64)
	case word == code.I32Eqz:
		b.compute(code.I32, code.I32)
	case word <= code.I32GeU:
		b.compute(code.I32, code.I32, code.I32)
	case word == code.I64Eqz:
		b.compute(code.I32, code.I64)
	case word <= code.I64GeU:
		b.compute(code.I32, code.I64, code.I64)
	case word <= code.I32Popcnt:
		b.compute(code.I32, code.I32)
	case word <= code.I32Rotr:
		b.compute(code.I32, code.I32, code.I32)
	case word <= code.I64Popcnt:
		b.compute(code.I64, code.I64)
	case word <= code.I64Rotr:
		b.compute(code.I64, code.I64, code.I64)
	case word == code.I32Wrap:
		b.compute(code.I32, code.I64)
	default:
		b.compute(code.I64, code.I32)
	}
}

// compute takes some kinds and puts one.
func (b *body) compute(puts code.Kind, takes ...code.Kind) {
	b.take(takes...)
	b.put(puts)
}
