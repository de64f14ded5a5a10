package module

import (
	"loom/api"
	"loom/code"
	"loom/letter"
	"loom/scan"
)

// MaxMembers is how many functions an element may have.
const MaxMembers = 20

const (
	head = "\x00asm\x01\x00\x00\x00"

	typeByte  byte = 0x60 // ahead of a type
	tableByte byte = 0x70 // ahead of a table's limits
)

// The bytes that tell which section it is.
const (
	typeSection    byte = 1
	funcSection    byte = 3
	tableSection   byte = 4
	memorySection  byte = 5
	globalSection  byte = 6
	exportSection  byte = 7
	startSection   byte = 8
	elementSection byte = 9
	codeSection    byte = 10
	dataSection    byte = 11
	nameSection    byte = 0
)

// noSection is the one byte between those of sections that tells none.
const noSection byte = 2

// Read reads a module's bytes, and gives up at the first one that cannot stand there.
func Read(bytes string) *Module {
	r := scan.New(bytes)
	r.Exactly(head)
	m := &Module{}
	last := 0
	for !r.Done() {
		last = m.section(&r, last)
	}
	m.needCodes(r.At())
	return m
}

// section takes a section that must be of a higher rank than the last one, and tells its rank.
func (m *Module) section(r *scan.Reader, last int) int {
	at := r.At()
	which := r.Byte()
	if rank(which) <= last {
		scan.Refuse(at)
	}
	if rank(which) > rank(codeSection) {
		m.needCodes(at)
	}
	r.Within(func() { m.content(r, which) })
	return rank(which)
}

// rank tells how far behind in the order of sections one is; 0 if the byte tells none.
func rank(which byte) int {
	switch {
	case which == nameSection:
		return int(dataSection) + 1
	case which == noSection || which > dataSection:
		return 0
	}
	return int(which)
}

// needCodes gives up if there are functions without codes: section 10 itself has as many codes as functions, so it is missing then.
func (m *Module) needCodes(at int) {
	if len(m.Codes) != len(m.Funcs) {
		scan.Refuse(at)
	}
}

// content takes what is in a section.
func (m *Module) content(r *scan.Reader, which byte) {
	switch which {
	case typeSection:
		m.Types = list(r, api.MaxTypes, takeType)
	case funcSection:
		m.Funcs = list(r, api.MaxFuncs, (*scan.Reader).U)
	case tableSection:
		m.Tables = list(r, 1, takeTable)
	case memorySection:
		m.Memories = list(r, 1, takeLimits)
	case globalSection:
		m.Globals = list(r, api.MaxGlobals, takeGlobal)
	case exportSection:
		m.Exports = list(r, api.MaxExports, takeExport)
	case startSection:
		m.Starts = append(m.Starts, r.U())
	case elementSection:
		m.Elements = list(r, api.MaxElems, takeElement)
	case codeSection:
		m.takeCodes(r)
	case dataSection:
		m.Data = list(r, api.MaxData, takeData)
	case nameSection:
		m.takeNames(r)
	}
}

// list takes a vector of at most so many.
func list[T any](r *scan.Reader, most int, take func(*scan.Reader) T) []T {
	var all []T
	for range r.Count(most) {
		one := take(r)
		all = append(all, one)
	}
	return all
}

func takeType(r *scan.Reader) Type {
	var t Type
	r.One(typeByte)
	t.In = list(r, api.MaxParams, code.TakeKind)
	t.Out = list(r, api.MaxResults, code.TakeKind)
	return t
}

func takeTable(r *scan.Reader) Limits {
	r.One(tableByte)
	return takeLimits(r)
}

func takeLimits(r *scan.Reader) Limits {
	l := Limits{At: r.At()}
	l.HasMost = r.One(0, 1) == 1
	l.Least = r.U().Value
	if l.HasMost {
		l.Most = r.U().Value
	}
	return l
}

func takeConstant(r *scan.Reader) Constant {
	c := Constant{At: r.At()}
	if r.One(code.I32Const, code.I64Const) == code.I32Const {
		c.Kind, c.Value = code.I32, r.S(32)
	} else {
		c.Kind, c.Value = code.I64, r.S(64)
	}
	r.One(code.End)
	return c
}

func takeGlobal(r *scan.Reader) Global {
	var g Global
	g.Kind = code.TakeKind(r)
	g.Settable = r.One(0, 1) == 1
	g.First = takeConstant(r)
	return g
}

func takeExport(r *scan.Reader) Export {
	e := Export{NameAt: r.At()}
	e.Name = r.Text(r.Count(api.MaxName))
	if !letter.ExportName(e.Name) {
		scan.Refuse(e.NameAt)
	}
	e.Of = r.One(OfFunc, OfTable, OfMemory, OfGlobal)
	e.Index = r.U()
	return e
}

func takeElement(r *scan.Reader) Element {
	e := Element{At: r.At()}
	r.One(0)
	e.Place = takeConstant(r)
	e.Funcs = list(r, MaxMembers, (*scan.Reader).U)
	return e
}

func takeData(r *scan.Reader) Data {
	d := Data{At: r.At()}
	r.One(0)
	d.Place = takeConstant(r)
	d.Bytes = r.Text(r.Count(api.MaxString))
	return d
}

func (m *Module) takeCodes(r *scan.Reader) {
	many := r.U()
	if int64(many.Value) != int64(len(m.Funcs)) {
		scan.Refuse(many.At)
	}
	for range m.Funcs {
		c := takeCode(r)
		m.Codes = append(m.Codes, c)
	}
}

func takeCode(r *scan.Reader) Code {
	var c Code
	r.Within(func() {
		c.Locals = takeLocals(r)
		c.Instructions = code.Instructions(*r)
		for in := range c.Instructions {
			r.MoveTo(in.Behind)
		}
	})
	return c
}

func takeLocals(r *scan.Reader) []code.Kind {
	var locals []code.Kind
	for range r.U().Value {
		many := r.Count(api.MaxLocals - len(locals))
		kind := code.TakeKind(r)
		for range many {
			locals = append(locals, kind)
		}
	}
	return locals
}
