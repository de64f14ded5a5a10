// Package module: a module's parts, read from its bytes and written as these. Each knows the places that are told if it does not fit.
package module

import (
	"iter"
	"slices"

	"loom/code"
	"loom/scan"
)

// Module is all that the sections tell.
type Module struct {
	Types    []Type
	Funcs    []scan.Number // of each function its type's index
	Tables   []Limits      // none or one
	Memories []Limits      // none or one
	Globals  []Global
	Exports  []Export
	Starts   []scan.Number // none or one
	Elements []Element
	Codes    []Code
	Data     []Data
	Names    Names
}

// Type is what goes into a function or block, and what comes out.
type Type struct {
	In, Out []code.Kind
}

// Same tells whether a type has the same kinds as another one.
func (t Type) Same(other Type) bool {
	return slices.Equal(t.In, other.In) && slices.Equal(t.Out, other.Out)
}

// Limits are the least number of something, and perhaps the greatest.
type Limits struct {
	At          int // the place of the first byte
	Least, Most uint32
	HasMost     bool
}

// Constant is a number that stands in a section.
type Constant struct {
	At    int // the place of the first byte
	Kind  code.Kind
	Value int64
}

// Global is a number that functions share.
type Global struct {
	Kind     code.Kind
	Settable bool
	First    Constant
}

// What an export is of.
const (
	OfFunc   byte = 0
	OfTable  byte = 1
	OfMemory byte = 2
	OfGlobal byte = 3
)

// Export is a name by which something is reached from outside.
type Export struct {
	NameAt int // the place of the U that tells how long the name is
	Name   string
	Of     byte
	Index  scan.Number
}

// Element is functions for the table, from a place of it on.
type Element struct {
	At    int // the place of the first byte
	Place Constant
	Funcs []scan.Number
}

// Code is what a function does.
type Code struct {
	Locals       []code.Kind
	Instructions iter.Seq[code.Instruction] // tells them one by one, the code's own end last
}

// Data is bytes for the memory, from a place of it on.
type Data struct {
	At    int // the place of the first byte
	Place Constant
	Bytes string
}

// Names are those of functions, and of each function's params and locals.
type Names struct {
	Funcs  []Name
	Locals []LocalNames
}

// LocalNames are the names of a function's params and locals.
type LocalNames struct {
	Func  int
	Names []Name
}

// Name is the name of what has an index.
type Name struct {
	Index int
	Text  string
}

// Params gives the kinds that go into a function: none if its type is not there.
func (m *Module) Params(function int) []code.Kind {
	index := m.Funcs[function].Value
	if int64(index) >= int64(len(m.Types)) {
		return nil
	}
	return m.Types[index].In
}

// OfLocals gives the names of a function's params and locals.
func (n Names) OfLocals(function int) []Name {
	for _, l := range n.Locals {
		if l.Func == function {
			return l.Names
		}
	}
	return nil
}

// NameAt gives the name of what has an index; the empty text if it has none.
func NameAt(names []Name, index int) string {
	for _, n := range names {
		if n.Index == index {
			return n.Text
		}
	}
	return ""
}

// IndexOf gives the index of what has a name; false if nothing has it.
func IndexOf(names []Name, text string) (int, bool) {
	for _, n := range names {
		if n.Text == text {
			return n.Index, true
		}
	}
	return 0, false
}
