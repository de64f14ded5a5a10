package show

import (
	"strconv"
	"strings"

	"loom/code"
	"loom/module"
	"loom/scan"
)

// bodyInward is how far in the instructions of a function stand that stand in no block.
const bodyInward = 2

// function prints a function: a line that tells what it is, and its instructions.
func (p *printer) function(m *module.Module, function int) {
	p.line(1, opening(m, function))
	inward := bodyInward
	for in := range m.Codes[function].Instructions {
		if in.Word == code.Else || in.Word == code.End {
			inward--
		}
		// The end of the code itself is the bracket of the function.
		if inward < bodyInward {
			break
		}
		p.line(inward, instruction(in))
		switch in.Word {
		case code.Block, code.Loop, code.If, code.Else:
			inward++
		}
	}
	p.line(1, ")")
}

// opening gives the line ahead of a function's instructions.
func opening(m *module.Module, function int) string {
	index := m.Funcs[function]
	t := m.Types[index.Value]
	names := m.Names.OfLocals(function)
	words := []string{"(func"}
	if name := module.NameAt(m.Names.Funcs, function); name != "" {
		words = append(words, "$"+name)
	}
	words = append(words, use(index))
	words = append(words, named("param", t.In, names, 0)...)
	words = append(words, kinds("result", t.Out)...)
	words = append(words, named("local", m.Codes[function].Locals, names, len(t.In))...)
	return strings.Join(words, " ")
}

// use tells a type by its index.
func use(index scan.Number) string {
	return group("type", number(index.Value))
}

// named gives groups of params or locals, which are counted from an index on: each that has a name is one of its own, those between are one together.
func named(word string, of []code.Kind, names []module.Name, from int) []string {
	var groups []string
	together := 0 // where those without a name begin that are not in a group yet
	for i, kind := range of {
		name := module.NameAt(names, from+i)
		if name == "" {
			continue
		}
		groups = append(groups, kinds(word, of[together:i])...)
		groups = append(groups, group(word, "$"+name, kind.String()))
		together = i + 1
	}
	return append(groups, kinds(word, of[together:])...)
}

// instruction gives an instruction's word, and what stands behind it.
func instruction(in code.Instruction) string {
	words := []string{code.Spell(in.Word)}
	switch in.Word {
	case code.Block, code.Loop, code.If:
		words = append(words, blockUse(in)...)
	case code.BrTable:
		for _, label := range in.Labels {
			words = append(words, number(label.Value))
		}
		fallthrough
	case code.Br, code.BrIf, code.Call, code.LocalGet, code.LocalSet, code.LocalTee, code.GlobalGet, code.GlobalSet:
		words = append(words, number(in.Number.Value))
	case code.CallIndirect:
		words = append(words, use(in.Number))
	case code.I32Load, code.I64Load, code.I32Load8S, code.I32Load8U, code.I32Store, code.I64Store, code.I32Store8:
		words = append(words, offsetAndAlign(in)...)
	case code.I32Const, code.I64Const:
		words = append(words, strconv.FormatInt(in.Value, 10))
	}
	return strings.Join(words, " ")
}

// blockUse tells what a block takes and gives; one that takes and gives nothing needs no words.
func blockUse(in code.Instruction) []string {
	if in.Typed {
		return []string{use(in.Number)}
	}
	return kinds("result", in.Gives)
}

// offsetAndAlign tells of both only what is not as it is without.
func offsetAndAlign(in code.Instruction) []string {
	var words []string
	if in.Number.Value != 0 {
		words = append(words, "offset="+number(in.Number.Value))
	}
	if in.Align != code.UsualAlign(in.Word) {
		words = append(words, "align="+number(1<<in.Align))
	}
	return words
}
