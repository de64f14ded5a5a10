package module

import (
	"loom/code"
	"loom/write"
)

// Write gives a module's bytes as short as they can be.
func Write(m *Module) string {
	w := &write.Writer{}
	w.Text(head)
	writePart(w, typeSection, m.Types, writeType)
	writePart(w, funcSection, m.Funcs, code.WriteNumber)
	writePart(w, tableSection, m.Tables, writeTable)
	writePart(w, memorySection, m.Memories, writeLimits)
	writePart(w, globalSection, m.Globals, writeGlobal)
	writePart(w, exportSection, m.Exports, writeExport)
	m.writeStart(w)
	writePart(w, elementSection, m.Elements, writeElement)
	writePart(w, codeSection, m.Codes, writeCode)
	writePart(w, dataSection, m.Data, writeData)
	m.Names.write(w)
	return w.All()
}

// writePart writes a section, or a part of the names, that is a vector, but not one that has nothing in it.
func writePart[T any](w *write.Writer, which byte, all []T, put func(*write.Writer, T)) {
	if len(all) == 0 {
		return
	}
	w.Bytes(which)
	w.Within(func(inner *write.Writer) { write.List(inner, all, put) })
}

func writeType(w *write.Writer, t Type) {
	w.Bytes(typeByte)
	write.List(w, t.In, code.WriteKind)
	write.List(w, t.Out, code.WriteKind)
}

func writeTable(w *write.Writer, l Limits) {
	w.Bytes(tableByte)
	writeLimits(w, l)
}

func writeLimits(w *write.Writer, l Limits) {
	if !l.HasMost {
		w.Bytes(0)
		w.U(l.Least)
		return
	}
	w.Bytes(1)
	w.U(l.Least)
	w.U(l.Most)
}

func writeConstant(w *write.Writer, c Constant) {
	word := code.I32Const
	if c.Kind == code.I64 {
		word = code.I64Const
	}
	w.Bytes(word)
	w.S(c.Value)
	w.Bytes(code.End)
}

func writeGlobal(w *write.Writer, g Global) {
	code.WriteKind(w, g.Kind)
	if g.Settable {
		w.Bytes(1)
	} else {
		w.Bytes(0)
	}
	writeConstant(w, g.First)
}

func writeExport(w *write.Writer, e Export) {
	w.Sized(e.Name)
	w.Bytes(e.Of)
	w.U(e.Index.Value)
}

// writeStart stands alone, as the section of the start is no vector.
func (m *Module) writeStart(w *write.Writer) {
	for _, start := range m.Starts {
		w.Bytes(startSection)
		w.Within(func(inner *write.Writer) { inner.U(start.Value) })
	}
}

func writeElement(w *write.Writer, e Element) {
	w.Bytes(0)
	writeConstant(w, e.Place)
	write.List(w, e.Funcs, code.WriteNumber)
}

func writeData(w *write.Writer, d Data) {
	w.Bytes(0)
	writeConstant(w, d.Place)
	w.Sized(d.Bytes)
}

func writeCode(w *write.Writer, c Code) {
	w.Within(func(inner *write.Writer) {
		write.List(inner, runs(c.Locals), writeRun)
		for in := range c.Instructions {
			in.Write(inner)
		}
	})
}

// run is locals of one kind side by side.
type run struct {
	many uint32
	kind code.Kind
}

// runs puts together locals of one kind that stand side by side.
func runs(locals []code.Kind) []run {
	var all []run
	for _, kind := range locals {
		if len(all) == 0 || all[len(all)-1].kind != kind {
			all = append(all, run{kind: kind})
		}
		all[len(all)-1].many++
	}
	return all
}

func writeRun(w *write.Writer, r run) {
	w.U(r.many)
	code.WriteKind(w, r.kind)
}
