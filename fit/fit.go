// Package fit: whether a module fits: no instruction ever finds a value of the wrong kind, or none.
package fit

import (
	"loom/api"
	"loom/code"
	"loom/fault"
	"loom/module"
	"loom/scan"
)

// Check gives up at the first thing, in the order of the bytes, that does not fit.
func Check(m *module.Module) {
	for _, index := range m.Funcs {
		there(index, len(m.Types))
	}
	checkLimits(m.Tables, api.MaxTable)
	checkLimits(m.Memories, api.MaxPages)
	checkGlobals(m)
	checkExports(m)
	checkStart(m)
	checkElements(m)
	for function := range m.Codes {
		checkCode(m, function)
	}
	checkData(m)
}

// there gives an index that must be one of so many things.
func there(index scan.Number, many int) int {
	if int64(index.Value) >= int64(many) {
		fault.GiveUp(api.ErrIndex, index.At)
	}
	return int(index.Value)
}

func checkLimits(all []module.Limits, most uint32) {
	for _, l := range all {
		if l.Least > most || l.HasMost && (l.Most < l.Least || l.Most > most) {
			fault.GiveUp(api.ErrLimit, l.At)
		}
	}
}

func checkConstant(c module.Constant, kind code.Kind) {
	if c.Kind != kind {
		fault.GiveUp(api.ErrKind, c.At)
	}
}

func checkGlobals(m *module.Module) {
	for _, g := range m.Globals {
		checkConstant(g.First, g.Kind)
	}
}

func checkExports(m *module.Module) {
	for i, e := range m.Exports {
		for _, earlier := range m.Exports[:i] {
			if earlier.Name == e.Name {
				fault.GiveUp(api.ErrTwice, e.NameAt)
			}
		}
		there(e.Index, many(m, e.Of))
	}
}

// many tells how many there are of what an export is of.
func many(m *module.Module, of byte) int {
	switch of {
	case module.OfFunc:
		return len(m.Funcs)
	case module.OfTable:
		return len(m.Tables)
	case module.OfMemory:
		return len(m.Memories)
	}
	return len(m.Globals)
}

func checkStart(m *module.Module) {
	for _, start := range m.Starts {
		t := typeOf(m, there(start, len(m.Funcs)))
		if len(t.In) > 0 || len(t.Out) > 0 {
			fault.GiveUp(api.ErrKind, start.At)
		}
	}
}

// typeOf gives the type of a function, when it is known that it is there.
func typeOf(m *module.Module, function int) module.Type {
	return m.Types[m.Funcs[function].Value]
}

func checkElements(m *module.Module) {
	for _, e := range m.Elements {
		if len(m.Tables) == 0 {
			fault.GiveUp(api.ErrIndex, e.At)
		}
		checkConstant(e.Place, code.I32)
		for _, function := range e.Funcs {
			there(function, len(m.Funcs))
		}
	}
}

func checkData(m *module.Module) {
	for _, d := range m.Data {
		if len(m.Memories) == 0 {
			fault.GiveUp(api.ErrIndex, d.At)
		}
		checkConstant(d.Place, code.I32)
	}
}
