package assemble

import (
	"slices"

	"loom/api"
	"loom/code"
	"loom/module"
	"loom/scan"
	"loom/token"
)

// function is one that is being read.
type function struct {
	*assembler
	names  []module.Name      // of its params and locals
	labels []string           // the names of the blocks that are open, the innermost last; the empty text without an id
	all    []code.Instruction // what has been read so far
}

func (a *assembler) function() {
	index := len(a.m.Funcs)
	a.declare(&a.found.funcs, index)
	f := &function{assembler: a}
	u := a.use(&f.names)
	a.m.Funcs = append(a.m.Funcs, scan.Number{Value: a.typeIndex(u)})
	locals := a.groups("local", api.MaxLocals, &f.names, len(u.kinds.In))
	f.instructions()
	f.put(code.Instruction{Word: code.End})
	a.m.Codes = append(a.m.Codes, module.Code{Locals: locals, Instructions: slices.Values(f.all)})
	a.m.Names.Locals = append(a.m.Names.Locals, module.LocalNames{Func: index, Names: f.names})
}

func (f *function) put(in code.Instruction) { f.all = append(f.all, in) }

// instructions takes all instructions that stand there.
func (f *function) instructions() {
	for {
		switch {
		case f.Peek().Sort == token.Open:
			f.folded()
		case f.Peek().Sort == token.Word && !f.Is("else") && !f.Is("end"):
			f.flat()
		default:
			return
		}
	}
}

// flat takes an instruction that is not folded.
func (f *function) flat() {
	first := f.Peek()
	switch word := f.word(); word {
	case code.Block, code.Loop, code.If:
		b := f.opening(first, word)
		f.block(b, func() { f.flatRest(word) })
	default:
		f.put(f.behind(word))
	}
}

// flatRest takes what stands in a block that is not folded, and its end.
func (f *function) flatRest(word byte) {
	f.instructions()
	if word == code.If && f.Is("else") {
		f.TakeWord("else")
		f.put(code.Instruction{Word: code.Else})
		f.instructions()
	}
	f.TakeWord("end")
}

// folded takes an instruction that is folded.
func (f *function) folded() {
	first := f.Take(token.Open)
	switch word := f.word(); word {
	case code.Block, code.Loop:
		b := f.opening(first, word)
		f.block(b, f.instructions)
	case code.If:
		b := f.opening(first, word)
		for f.Peek().Sort == token.Open && !f.Opens("then") {
			f.folded()
		}
		f.block(b, f.branches)
	default:
		in := f.behind(word)
		for f.Peek().Sort == token.Open {
			f.folded()
		}
		f.put(in)
	}
	f.Take(token.Close)
}

// branches takes what stands in an if that is folded.
func (f *function) branches() {
	f.TakeOpen("then")
	f.instructions()
	f.Take(token.Close)
	if f.Peek().Sort != token.Open {
		return
	}
	f.TakeOpen("else")
	f.put(code.Instruction{Word: code.Else})
	f.instructions()
	f.Take(token.Close)
}

// word takes the word of an instruction. An else or an end is none: it belongs to its block.
func (f *function) word() byte {
	t := f.Take(token.Word)
	word, ok := f.words[t.Text]
	if !ok || word == code.Else || word == code.End {
		token.Refuse(t)
	}
	return word
}

// opened is a block's first instruction, and its name.
type opened struct {
	in   code.Instruction
	name string
}

// opening takes what stands behind a block's word. The block itself may be put later: what is folded into an if comes ahead of it.
func (f *function) opening(first token.Token, word byte) opened {
	if len(f.labels) == api.MaxNest {
		token.Refuse(first)
	}
	b := opened{in: code.Instruction{Word: word}}
	if name, ok := f.Peek().ID(); ok {
		b.name = name
		f.Take(token.Word)
	}
	u := f.use(nil)
	if !u.told && len(u.kinds.In) == 0 && len(u.kinds.Out) <= 1 {
		b.in.Gives = u.kinds.Out
		return b
	}
	b.in.Typed = true
	b.in.Number.Value = f.typeIndex(u)
	return b
}

// block puts a block's first instruction, what take takes, and its end.
func (f *function) block(b opened, take func()) {
	f.put(b.in)
	f.labels = append(f.labels, b.name)
	take()
	f.labels = f.labels[:len(f.labels)-1]
	f.put(code.Instruction{Word: code.End})
}
