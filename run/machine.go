// Package run: modules that are run, from call to call.
package run

import (
	"slices"
	"strings"

	"loom/api"
	"loom/code"
	"loom/fault"
	"loom/module"
	"loom/prepare"
)

// startFuel is what the start may cost.
const startFuel = 1000

// empty stands in the table where there is no function.
const empty = -1

// Machine is a module, and what its functions have done. An i32 is kept with its sign, wherever a number is kept.
type Machine struct {
	types     []module.Type
	functions []prepare.Function
	exports   []export
	table     []int // indices of functions, or empty
	memory    []byte
	mostPages int
	globals   []int64
}

// export is a name by which a function or a global is reached.
type export struct {
	name  string
	of    byte
	index int
}

// New gives a module that fits as it is behind its start. It gives up where something lies outside, or where the start is broken off.
func New(from *module.Module) Machine {
	functions := prepare.Functions(from)
	m := Machine{types: from.Types, functions: functions, exports: exportsOf(from)}
	for _, g := range from.Globals {
		m.globals = append(m.globals, g.First.Value)
	}
	for _, l := range from.Tables {
		m.table = slices.Repeat([]int{empty}, int(l.Least))
	}
	for _, l := range from.Memories {
		m.memory = make([]byte, int(l.Least)*api.Page)
		m.mostPages = mostPages(l)
	}
	m.placeElements(from.Elements)
	m.placeData(from.Data)
	for _, function := range from.Starts {
		m.start(int(function.Value))
	}
	return m
}

// exportsOf gives the exports that are asked for by name. Their names are copies: the bytes that were handed in are not kept.
func exportsOf(from *module.Module) []export {
	var all []export
	for _, e := range from.Exports {
		if e.Of == module.OfFunc || e.Of == module.OfGlobal {
			all = append(all, export{name: strings.Clone(e.Name), of: e.Of, index: int(e.Index.Value)})
		}
	}
	return all
}

func mostPages(l module.Limits) int {
	if l.HasMost {
		return int(l.Most)
	}
	return api.MaxPages
}

func (m *Machine) placeElements(all []module.Element) {
	for number, e := range all {
		place := placeOf(e.Place, len(e.Funcs), len(m.table), number)
		for i, function := range e.Funcs {
			m.table[place+i] = int(function.Value)
		}
	}
}

func (m *Machine) placeData(all []module.Data) {
	for number, d := range all {
		place := placeOf(d.Place, len(d.Bytes), len(m.memory), number)
		copy(m.memory[place:], d.Bytes)
	}
}

// placeOf gives the place that a constant tells, from which on so many must lie within the room.
func placeOf(c module.Constant, many, room, number int) int {
	place := int64(uint32(c.Value))
	if place+int64(many) > int64(room) {
		fault.GiveUp(api.ErrPlace, number)
	}
	return int(place)
}

func (m *Machine) start(function int) {
	if done := m.run(function, nil, startFuel); done.Why != 0 {
		fault.GiveUp(api.ErrStart, done.Why)
	}
}

// exported gives the index of what is exported by a name; false if there is none.
func (m *Machine) exported(name string, of byte) (int, bool) {
	for _, e := range m.exports {
		if e.name == name && e.of == of {
			return e.index, true
		}
	}
	return 0, false
}

// Call runs a function that is exported.
func (m *Machine) Call(name string, args []int64, fuel int) (api.Done, api.Errno) {
	function, there := m.exported(name, module.OfFunc)
	if !there {
		return api.Done{}, api.ErrName
	}
	if len(args) != len(m.functions[function].Type.In) || fuel < 0 || fuel > api.MaxFuel {
		return api.Done{}, api.ErrArgs
	}
	return m.run(function, args, fuel), api.OK
}

// run runs a function with as many args as it takes.
func (m *Machine) run(function int, args []int64, fuel int) api.Done {
	r := &running{machine: m, fuel: fuel}
	for i, kind := range m.functions[function].Type.In {
		r.put(taken(args[i], kind))
	}
	r.enter(function)
	// In one expression Go would leave open whether the fuel is read ahead of the call that spends it.
	why := r.toEnd()
	done := api.Done{Why: why, Left: r.fuel}
	if why == 0 {
		done.Results = append(done.Results, r.stack...)
	}
	return done
}

// taken gives what is taken of a number that is handed in.
func taken(n int64, kind code.Kind) int64 {
	if kind == code.I32 {
		return int64(int32(n))
	}
	return n
}

// Global tells what a global that is exported is.
func (m *Machine) Global(name string) (int64, api.Errno) {
	global, there := m.exported(name, module.OfGlobal)
	if !there {
		return 0, api.ErrName
	}
	return m.globals[global], api.OK
}

// Bytes tells what stands in the memory.
func (m *Machine) Bytes(from int, n int) (string, api.Errno) {
	// Both are held against what there is one after the other, as their sum may be too great for an int.
	if from < 0 || n < 0 || from > len(m.memory) || n > len(m.memory)-from {
		return "", api.ErrArgs
	}
	return string(m.memory[from : from+n]), api.OK
}

// Pages tells how many pages the memory has.
func (m *Machine) Pages() int { return len(m.memory) / api.Page }

// grow makes the memory so many pages greater and tells how many there were, or tells -1.
func (m *Machine) grow(more uint32) int64 {
	pages := m.Pages()
	if int64(pages)+int64(more) > int64(m.mostPages) {
		return -1
	}
	m.memory = append(m.memory, make([]byte, int(more)*api.Page)...)
	return int64(pages)
}
