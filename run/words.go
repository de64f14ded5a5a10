package run

import (
	"loom/api"
	"loom/code"
	"loom/number"
	"loom/prepare"
)

// do does what an instruction says, and tells 0, or why it is broken off.
func (r *running) do(s *prepare.Step) int {
	switch {
	case s.Word <= code.End:
		return r.doBlock(s)
	case s.Word <= code.CallIndirect:
		return r.doJump(s)
	case s.Word <= code.GlobalSet:
		r.doVariable(s)
		return 0
	case s.Word <= code.MemoryGrow:
		return r.doMemory(s)
	}
	return r.doNumber(s)
}

func (r *running) doBlock(s *prepare.Step) int {
	switch s.Word {
	case code.Unreachable:
		return api.Stop
	case code.Block, code.Loop:
		r.open(s.Block)
	case code.If:
		r.doIf(s.Block)
	case code.Else:
		r.jump(0)
	case code.End:
		r.labels = r.labels[:len(r.labels)-1]
	}
	return 0
}

func (r *running) doIf(which int) {
	n := r.take()
	r.open(which)
	if n != 0 {
		return
	}
	f := r.current()
	if behind := f.function.Blocks[which].Else; behind != 0 {
		f.next = behind
		return
	}
	// Without an else it gives what it takes, so that a jump to its label takes all of this along.
	r.jump(0)
}

func (r *running) doJump(s *prepare.Step) int {
	switch s.Word {
	case code.Br:
		r.jump(s.Number)
	case code.BrIf:
		if r.take() != 0 {
			r.jump(s.Number)
		}
	case code.BrTable:
		which := uint32(r.take())
		if int64(which) < int64(len(s.Labels)) {
			r.jump(s.Labels[which])
		} else {
			r.jump(s.Number)
		}
	case code.Return:
		r.leave()
	case code.Call:
		return r.enter(int(s.Number))
	case code.CallIndirect:
		return r.callIndirect(s)
	}
	return 0
}

func (r *running) callIndirect(s *prepare.Step) int {
	m := r.machine
	place := uint32(r.take())
	if int64(place) >= int64(len(m.table)) || m.table[place] == empty {
		return api.Empty
	}
	function := m.table[place]
	if !m.functions[function].Type.Same(m.types[s.Number]) {
		return api.Other
	}
	return r.enter(function)
}

func (r *running) doVariable(s *prepare.Step) {
	switch s.Word {
	case code.Drop:
		r.take()
	case code.Select:
		r.doSelect()
	case code.LocalGet:
		r.put(*r.local(s.Number))
	case code.LocalSet:
		n := r.take()
		*r.local(s.Number) = n
	case code.LocalTee:
		*r.local(s.Number) = r.stack[len(r.stack)-1]
	case code.GlobalGet:
		r.put(r.machine.globals[s.Number])
	case code.GlobalSet:
		r.machine.globals[s.Number] = r.take()
	}
}

func (r *running) doSelect() {
	n := r.take()
	second := r.take()
	first := r.take()
	if n != 0 {
		r.put(first)
	} else {
		r.put(second)
	}
}

// local is where a param or local of the function that is run lies.
func (r *running) local(index uint32) *int64 {
	floor := r.labels[r.current().first].floor
	return &r.stack[floor+int(index)]
}

func (r *running) doNumber(s *prepare.Step) int {
	word := s.Word
	switch {
	case word == code.I32Const, word == code.I64Const:
		r.put(s.Value)
	case word <= code.I32GeU:
		compare[int32, uint32](r, word-code.I32Eqz)
	case word <= code.I64GeU:
		compare[int64, uint64](r, word-code.I64Eqz)
	case word <= code.I32Rotr:
		return compute[int32, uint32](r, word-code.I32Clz)
	case word <= code.I64Rotr:
		return compute[int64, uint64](r, word-code.I64Clz)
	case word == code.I32Wrap:
		r.put(int64(int32(r.take())))
	case word == code.I64ExtendU:
		r.put(int64(uint32(r.take())))
	}
	// I64ExtendS has nothing to do: an i32 is kept with its sign.
	return 0
}

func compare[S number.Signed, U number.Unsigned](r *running, which byte) {
	var b U
	if which != number.Eqz {
		b = U(r.take())
	}
	a := U(r.take())
	if number.Compare[S](which, a, b) {
		r.put(1)
	} else {
		r.put(0)
	}
}

func compute[S number.Signed, U number.Unsigned](r *running, which byte) int {
	var b U
	if which > number.Popcnt {
		b = U(r.take())
	}
	a := U(r.take())
	n, why := number.Compute[S](which, a, b)
	r.put(int64(S(n)))
	return why
}
