package run

import (
	"loom/api"
	"loom/code"
	"loom/prepare"
)

func (r *running) doMemory(s *prepare.Step) int {
	switch s.Word {
	case code.MemorySize:
		r.put(int64(r.machine.Pages()))
	case code.MemoryGrow:
		r.put(r.machine.grow(uint32(r.take())))
	case code.I32Store, code.I64Store, code.I32Store8:
		return r.store(s)
	default:
		return r.load(s)
	}
	return 0
}

// place takes the place of a load or store, and gives the bytes of the memory from there on that it is about; false if they do not lie within it.
func (r *running) place(s *prepare.Step) ([]byte, bool) {
	// The usual align is by how many bits one is to be shifted for the size.
	size := int64(1) << code.UsualAlign(s.Word)
	from := int64(uint32(r.take())) + int64(s.Number)
	if from+size > int64(len(r.machine.memory)) {
		return nil, false
	}
	return r.machine.memory[from : from+size], true
}

func (r *running) load(s *prepare.Step) int {
	from, within := r.place(s)
	if !within {
		return api.Bounds
	}
	var n uint64
	for i, b := range from {
		n |= uint64(b) << (8 * i)
	}
	r.put(loaded(s.Word, n))
	return 0
}

// loaded gives the number that a load makes of its bytes.
func loaded(word byte, n uint64) int64 {
	switch word {
	case code.I32Load:
		return int64(int32(n))
	case code.I32Load8S:
		return int64(int8(n))
	}
	return int64(n)
}

func (r *running) store(s *prepare.Step) int {
	n := uint64(r.take())
	to, within := r.place(s)
	if !within {
		return api.Bounds
	}
	for i := range to {
		to[i] = byte(n >> (8 * i))
	}
	return 0
}
