// Package show: a module as a text.
package show

import (
	"strconv"
	"strings"

	"loom/code"
	"loom/letter"
	"loom/module"
	"loom/scan"
)

// printer has the lines that were printed.
type printer struct {
	lines []string
}

// Text prints a module that fits.
func Text(m *module.Module) string {
	p := &printer{}
	p.line(0, "(module")
	items(p, m.Types, typeItem)
	for function := range m.Funcs {
		p.function(m, function)
	}
	items(p, m.Tables, tableItem)
	items(p, m.Memories, memoryItem)
	items(p, m.Globals, globalItem)
	items(p, m.Exports, exportItem)
	items(p, m.Starts, startItem)
	items(p, m.Elements, elementItem)
	items(p, m.Data, dataItem)
	p.line(0, ")")
	return strings.Join(p.lines, "\n")
}

// line prints a line, two blanks ahead for each step inward.
func (p *printer) line(inward int, text string) {
	p.lines = append(p.lines, strings.Repeat("  ", inward)+text)
}

// items prints each on a line of its own.
func items[T any](p *printer, all []T, item func(T) string) {
	for _, one := range all {
		p.line(1, item(one))
	}
}

// group puts words into brackets, with blanks between.
func group(words ...string) string {
	return "(" + strings.Join(words, " ") + ")"
}

func number(n uint32) string { return strconv.FormatUint(uint64(n), 10) }

func typeItem(t module.Type) string {
	words := []string{"func"}
	words = append(words, kinds("param", t.In)...)
	words = append(words, kinds("result", t.Out)...)
	return group("type", group(words...))
}

// kinds gives the group of these kinds, and none if there are none.
func kinds(word string, of []code.Kind) []string {
	if len(of) == 0 {
		return nil
	}
	words := []string{word}
	for _, kind := range of {
		words = append(words, kind.String())
	}
	return []string{group(words...)}
}

func tableItem(l module.Limits) string { return limits("table", l) }

func memoryItem(l module.Limits) string { return limits("memory", l) }

func limits(word string, l module.Limits) string {
	if !l.HasMost {
		return group(word, number(l.Least))
	}
	return group(word, number(l.Least), number(l.Most))
}

func constant(c module.Constant) string {
	return group(c.Kind.String()+".const", strconv.FormatInt(c.Value, 10))
}

func globalItem(g module.Global) string {
	kind := g.Kind.String()
	if g.Settable {
		kind = group("mut", kind)
	}
	return group("global", kind, constant(g.First))
}

func exportItem(e module.Export) string {
	return group("export", quoted(e.Name), group(exported(e.Of), number(e.Index.Value)))
}

// exported gives the word of what an export is of.
func exported(of byte) string {
	switch of {
	case module.OfFunc:
		return "func"
	case module.OfTable:
		return "table"
	case module.OfMemory:
		return "memory"
	}
	return "global"
}

func startItem(function scan.Number) string {
	return group("start", number(function.Value))
}

func elementItem(e module.Element) string {
	words := []string{"elem", constant(e.Place)}
	for _, function := range e.Funcs {
		words = append(words, number(function.Value))
	}
	return group(words...)
}

func dataItem(d module.Data) string {
	return group("data", constant(d.Place), quoted(d.Bytes))
}

// quoted writes bytes as a string.
func quoted(bytes string) string {
	const digits = "0123456789abcdef"
	var s strings.Builder
	s.WriteByte('"')
	for i := range len(bytes) {
		b := bytes[i]
		if letter.Plain(b) {
			s.WriteByte(b)
			continue
		}
		s.WriteByte('\\')
		s.WriteByte(digits[b>>4])
		s.WriteByte(digits[b&15])
	}
	s.WriteByte('"')
	return s.String()
}
