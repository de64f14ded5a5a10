package assemble

import (
	"loom/api"
	"loom/code"
	"loom/letter"
	"loom/module"
	"loom/scan"
	"loom/token"
)

// module takes all of the text.
func (a *assembler) module() {
	a.TakeOpen("module")
	a.items("type", api.MaxTypes, a.typeItem)
	a.items("func", api.MaxFuncs, a.function)
	a.perhaps("table", a.table)
	a.perhaps("memory", a.memory)
	a.items("global", api.MaxGlobals, a.global)
	a.items("export", api.MaxExports, a.export)
	a.perhaps("start", a.start)
	a.items("elem", api.MaxElems, a.element)
	a.items("data", api.MaxData, a.data)
	a.closeList()
	a.Take(token.End)
}

// closeList takes the bracket behind a list of what is in brackets itself. If another opens there, not this is wrong, but the word behind it.
func (a *assembler) closeList() {
	if a.Peek().Sort == token.Open {
		token.Refuse(a.Second())
	}
	a.Take(token.Close)
}

// items takes all items of a word that stand there, of which there may be no more than most.
func (a *assembler) items(word string, most int, item func()) {
	for many := 0; a.Opens(word); many++ {
		if many == most {
			token.Refuse(a.Peek())
		}
		a.perhaps(word, item)
	}
}

// perhaps takes an item of a word, if it stands there.
func (a *assembler) perhaps(word string, item func()) {
	if !a.Opens(word) {
		return
	}
	a.TakeOpen(word)
	item()
	a.Take(token.Close)
}

func (a *assembler) typeItem() {
	a.declare(&a.found.types, len(a.m.Types))
	a.TakeOpen("func")
	kinds := a.kinds(nil)
	a.m.Types = append(a.m.Types, kinds)
	a.closeList()
}

func (a *assembler) table() {
	a.m.Tables = append(a.m.Tables, a.limits())
}

func (a *assembler) memory() {
	a.m.Memories = append(a.m.Memories, a.limits())
}

func (a *assembler) limits() module.Limits {
	l := module.Limits{Least: a.number().Value}
	if a.Peek().Sort == token.Word {
		l.HasMost, l.Most = true, a.number().Value
	}
	return l
}

func (a *assembler) global() {
	var g module.Global
	a.declare(&a.found.globals, len(a.m.Globals))
	if a.Peek().Sort == token.Open {
		a.TakeOpen("mut")
		g.Settable, g.Kind = true, a.kind()
		a.Take(token.Close)
	} else {
		g.Kind = a.kind()
	}
	g.First = a.constant()
	a.m.Globals = append(a.m.Globals, g)
}

func (a *assembler) constant() module.Constant {
	var c module.Constant
	a.Take(token.Open)
	switch t := a.Take(token.Word); a.words[t.Text] {
	case code.I32Const:
		c.Kind, c.Value = code.I32, a.signed(32)
	case code.I64Const:
		c.Kind, c.Value = code.I64, a.signed(64)
	default:
		token.Refuse(t)
	}
	a.Take(token.Close)
	return c
}

// signed takes the number of a constant that has so many bits.
func (a *assembler) signed(bits int) int64 {
	t := a.Take(token.Word)
	n, ok := t.S(bits)
	if !ok {
		token.Refuse(t)
	}
	return n
}

func (a *assembler) export() {
	name := a.Take(token.String)
	if !letter.ExportName(name.Text) {
		token.Refuse(name)
	}
	e := module.Export{Name: name.Text}
	a.Take(token.Open)
	e.Of, e.Index = a.exported()
	a.Take(token.Close)
	a.m.Exports = append(a.m.Exports, e)
}

// exported takes what an export is of.
func (a *assembler) exported() (of byte, index scan.Number) {
	t := a.Take(token.Word)
	switch t.Text {
	case "func":
		of = module.OfFunc
		index, _ = a.index(a.known.funcs)
	case "table":
		of = module.OfTable
		index = a.number()
	case "memory":
		of = module.OfMemory
		index = a.number()
	case "global":
		of = module.OfGlobal
		index, _ = a.index(a.known.globals)
	default:
		token.Refuse(t)
	}
	return of, index
}

func (a *assembler) start() {
	index, _ := a.index(a.known.funcs)
	a.m.Starts = append(a.m.Starts, index)
}

func (a *assembler) element() {
	e := module.Element{Place: a.constant()}
	for a.Peek().Sort == token.Word {
		if len(e.Funcs) == module.MaxMembers {
			token.Refuse(a.Peek())
		}
		index, _ := a.index(a.known.funcs)
		e.Funcs = append(e.Funcs, index)
	}
	a.m.Elements = append(a.m.Elements, e)
}

func (a *assembler) data() {
	d := module.Data{Place: a.constant()}
	for a.Peek().Sort == token.String {
		t := a.Take(token.String)
		d.Bytes += t.Text
		if len(d.Bytes) > api.MaxString {
			token.Refuse(t)
		}
	}
	a.m.Data = append(a.m.Data, d)
}
