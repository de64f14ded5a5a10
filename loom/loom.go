// Package loom: programs of a stack machine: see DOC.md.
package loom

import (
	"loom/api"
	"loom/assemble"
	"loom/fault"
	"loom/fit"
	"loom/module"
	"loom/run"
	"loom/show"
)

// Check tells whether bytes are a module, and one that fits (P3, P4).
func Check(bytes string) (api.Errno, int) {
	_, errno, at := fitting(bytes)
	return errno, at
}

// fitting gives a module that fits, or the errors of Check.
func fitting(bytes string) (*module.Module, api.Errno, int) {
	if len(bytes) > api.MaxBytes {
		return nil, api.ErrLong, 0
	}
	var m *module.Module
	errno, at := givenUp(func() {
		m = module.Read(bytes)
		fit.Check(m)
	})
	return m, errno, at
}

// givenUp runs what may give up, and tells with what it did, or OK and 0.
func givenUp(run func()) (errno api.Errno, at int) {
	defer func() {
		caught := recover()
		if caught == nil {
			return
		}
		given, ok := caught.(fault.Fault)
		if !ok {
			// Not given up but a mistake of the program: an answer would hide it.
			panic(caught)
		}
		errno, at = given.Errno, given.At
	}()
	run()
	return api.OK, 0
}

// Pack gives a module's bytes as short as they can be (P5).
func Pack(bytes string) (string, api.Errno, int) { return told(bytes, module.Write) }

// Print gives a module as a text (P6).
func Print(bytes string) (string, api.Errno, int) { return told(bytes, show.Text) }

// told gives what tell tells of a module that fits, or the errors of Check.
func told(bytes string, tell func(*module.Module) string) (string, api.Errno, int) {
	m, errno, at := fitting(bytes)
	if errno != api.OK {
		return "", errno, at
	}
	return tell(m), api.OK, 0
}

// Assemble gives the bytes of a module that is written as a text (P7).
func Assemble(text string) (string, api.Errno, int) {
	if len(text) > api.MaxText {
		return "", api.ErrLong, 0
	}
	var bytes string
	errno, at := givenUp(func() { bytes = module.Write(assemble.Module(text)) })
	if errno == api.OK && len(bytes) > api.MaxBytes {
		errno = api.ErrLong
	}
	if errno != api.OK {
		return "", errno, at
	}
	return bytes, api.OK, 0
}

// Instance is a module that can be run.
type Instance struct {
	machine run.Machine
}

// New makes one (P8).
func New(bytes string) (*Instance, api.Errno, int) {
	m, errno, at := fitting(bytes)
	if errno != api.OK {
		return nil, errno, at
	}
	var made *Instance
	errno, at = givenUp(func() { made = &Instance{machine: run.New(m)} })
	return made, errno, at
}

// Call calls a function that is exported (P9).
func (i *Instance) Call(name string, args []int64, fuel int) (api.Done, api.Errno) {
	return i.machine.Call(name, args, fuel)
}

// Global tells what a global that is exported is (P9).
func (i *Instance) Global(name string) (int64, api.Errno) { return i.machine.Global(name) }

// Bytes tells what stands in the memory (P9).
func (i *Instance) Bytes(from int, n int) (string, api.Errno) { return i.machine.Bytes(from, n) }

// Pages tells how many pages the memory has (P9).
func (i *Instance) Pages() int { return i.machine.Pages() }
