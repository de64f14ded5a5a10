// Package assemble: a module from its text.
package assemble

import (
	"loom/api"
	"loom/code"
	"loom/fault"
	"loom/module"
	"loom/scan"
	"loom/token"
)

// assembler reads a module's text from its first token to its last one.
type assembler struct {
	token.Reader
	words   map[string]byte // of the instructions
	known   names           // what ids may name, wherever it stands
	found   names           // what has been read so far
	m       *module.Module
	noticed []fault.Fault // what is only told if all of the text can be read
}

// names are the ids of what stands in a module.
type names struct {
	types, funcs, globals []module.Name
}

// Module gives the module that a text tells, which need not fit. It gives up at the first token that cannot stand where it stands, or at an id or type that is wrong.
func Module(text string) *module.Module {
	a := &assembler{Reader: token.New(text), words: code.Words()}
	// A function or global may be named ahead of where it stands: what there is, is known when all was read once.
	a.read()
	a.known = a.found
	a.read()
	a.tellNoticed()
	return a.m
}

// read reads the text from its beginning.
func (a *assembler) read() {
	whole := a.Reader
	a.m, a.found, a.noticed = &module.Module{}, names{}, nil
	a.module()
	a.m.Names.Funcs = a.found.funcs
	a.Reader = whole
}

// notice keeps a fault that must wait: one of another sort may come first, though it stands behind it.
func (a *assembler) notice(errno api.Errno, t token.Token) {
	a.noticed = append(a.noticed, fault.Fault{Errno: errno, At: t.At})
}

// tellNoticed gives up because of the first fault of the first sort that there is.
func (a *assembler) tellNoticed() {
	for _, errno := range []api.Errno{api.ErrMatch, api.ErrTwice, api.ErrName} {
		for _, f := range a.noticed {
			if f.Errno == errno {
				fault.GiveUp(f.Errno, f.At)
			}
		}
	}
}

// declare takes an id, if there is one, as the name of what has an index, and tells whether there was one.
func (a *assembler) declare(all *[]module.Name, index int) bool {
	name, ok := a.Peek().ID()
	if !ok {
		return false
	}
	t := a.Take(token.Word)
	if _, twice := module.IndexOf(*all, name); twice {
		a.notice(api.ErrTwice, t)
	} else {
		*all = append(*all, module.Name{Index: index, Text: name})
	}
	return true
}

// index takes a number, or the id of one of these, and tells whether the id names something.
func (a *assembler) index(all []module.Name) (n scan.Number, named bool) {
	name, ok := a.Peek().ID()
	if !ok {
		return a.number(), true
	}
	t := a.Take(token.Word)
	index, named := module.IndexOf(all, name)
	if !named {
		a.notice(api.ErrName, t)
	}
	return scan.Number{Value: uint32(index)}, named
}

// number takes a number. It has no place: only in bytes a number's place is ever told.
func (a *assembler) number() scan.Number {
	t := a.Take(token.Word)
	n, ok := t.U()
	if !ok {
		token.Refuse(t)
	}
	return scan.Number{Value: n}
}
