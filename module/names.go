package module

import (
	"loom/api"
	"loom/letter"
	"loom/scan"
	"loom/write"
)

// nameWord is how the section of names begins: a word, and its size ahead.
const nameWord = "\x04name"

const (
	namesOfFuncs  byte = 1
	namesOfLocals byte = 2
)

// takeNames takes the section of names: its word, then perhaps each part.
func (m *Module) takeNames(r *scan.Reader) {
	r.Exactly(nameWord)
	takePart(r, namesOfFuncs, func() {
		m.Names.Funcs = takeNamesOf(r, len(m.Funcs))
	})
	takePart(r, namesOfLocals, func() {
		m.takeLocalNames(r)
	})
}

// takePart takes a part of the names, if it stands there.
func takePart(r *scan.Reader, which byte, take func()) {
	if r.Done() || r.Peek() != which {
		return
	}
	r.Byte()
	r.Within(take)
}

func (m *Module) takeLocalNames(r *scan.Reader) {
	least := 0
	for range r.Count(len(m.Funcs)) {
		function := takeIndex(r, least, len(m.Funcs))
		least = function + 1
		many := len(m.Params(function)) + len(m.Codes[function].Locals)
		m.Names.Locals = append(m.Names.Locals, LocalNames{Func: function, Names: takeNamesOf(r, many)})
	}
}

// takeNamesOf takes names of some of so many things, by rising indices, no two the same.
func takeNamesOf(r *scan.Reader, many int) []Name {
	var names []Name
	least := 0
	for range r.Count(many) {
		index := takeIndex(r, least, many)
		least = index + 1
		at := r.At()
		text := r.Text(r.Count(api.MaxName))
		if _, twice := IndexOf(names, text); twice || !letter.Name(text) {
			scan.Refuse(at)
		}
		names = append(names, Name{Index: index, Text: text})
	}
	return names
}

// takeIndex takes an index from least on, below end.
func takeIndex(r *scan.Reader, least, end int) int {
	n := r.U()
	if int64(n.Value) < int64(least) || int64(n.Value) >= int64(end) {
		scan.Refuse(n.At)
	}
	return int(n.Value)
}

// write writes the section of names: of its parts those that have any, and no section if none has.
func (n Names) write(w *write.Writer) {
	parts := &write.Writer{}
	writePart(parts, namesOfFuncs, n.Funcs, writeName)
	writePart(parts, namesOfLocals, n.tellingLocals(), writeLocalNames)
	if parts.All() == "" {
		return
	}
	w.Bytes(nameSection)
	w.Sized(nameWord + parts.All())
}

// tellingLocals leaves out functions without names of locals.
func (n Names) tellingLocals() []LocalNames {
	var telling []LocalNames
	for _, l := range n.Locals {
		if len(l.Names) > 0 {
			telling = append(telling, l)
		}
	}
	return telling
}

func writeName(w *write.Writer, n Name) {
	w.U(uint32(n.Index))
	w.Sized(n.Text)
}

func writeLocalNames(w *write.Writer, l LocalNames) {
	w.U(uint32(l.Func))
	write.List(w, l.Names, writeName)
}
