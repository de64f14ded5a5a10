package run

import (
	"loom/api"
	"loom/prepare"
)

// running is a call that is under way.
type running struct {
	machine *Machine
	fuel    int
	stack   []int64 // of each function under way its params and locals, then what its instructions put
	labels  []label // of the blocks that are open, of each function under way
	frames  []frame // the functions under way
}

// label is a block that is open.
type label struct {
	block *prepare.Block
	floor int // how many values lie below what the block takes; of a code itself: below its params
}

// frame is a function under way.
type frame struct {
	function *prepare.Function
	next     int // the step that is come to next
	first    int // how many labels are those of others: there lies the code's own
}

func (r *running) put(n int64) { r.stack = append(r.stack, n) }

func (r *running) take() int64 {
	top := len(r.stack) - 1
	n := r.stack[top]
	r.stack = r.stack[:top]
	return n
}

// current is the function that is run. What enters another one makes it another.
func (r *running) current() *frame { return &r.frames[len(r.frames)-1] }

// toEnd runs till no function is under way, and tells 0, or why it is broken off.
func (r *running) toEnd() int {
	for len(r.frames) > 0 {
		f := r.current()
		if f.next == len(f.function.Steps) {
			r.leave()
			continue
		}
		if r.fuel == 0 {
			return api.Spent
		}
		r.fuel--
		step := &f.function.Steps[f.next]
		f.next++
		if why := r.do(step); why != 0 {
			return why
		}
	}
	return 0
}

// enter begins a function: its params lie at the top.
func (r *running) enter(function int) int {
	if len(r.frames) == api.MaxCalls {
		return api.Deep
	}
	f := &r.machine.functions[function]
	floor := len(r.stack) - len(f.Type.In)
	r.stack = append(r.stack, make([]int64, f.Locals)...)
	r.frames = append(r.frames, frame{function: f, first: len(r.labels)})
	r.labels = append(r.labels, label{block: &f.Blocks[0], floor: floor})
	return 0
}

// leave ends the function that is run: of all that is its own, its results alone stay.
func (r *running) leave() {
	first := r.current().first
	r.carry(r.labels[first])
	r.labels = r.labels[:first]
	r.frames = r.frames[:len(r.frames)-1]
}

// open begins a block.
func (r *running) open(which int) {
	b := &r.current().function.Blocks[which]
	r.labels = append(r.labels, label{block: b, floor: len(r.stack) - b.Takes})
}

// jump goes on where a label says, the innermost one being 0.
func (r *running) jump(outward uint32) {
	f := r.current()
	at := len(r.labels) - 1 - int(outward)
	if at == f.first {
		r.leave()
		return
	}
	l := r.labels[at]
	r.carry(l)
	f.next = l.block.To
	r.labels = r.labels[:at]
	if l.block.Loop {
		r.labels = append(r.labels, l)
	}
}

// carry throws away what lies in a block below what its label takes.
func (r *running) carry(l label) {
	many := l.block.Carries
	copy(r.stack[l.floor:], r.stack[len(r.stack)-many:])
	r.stack = r.stack[:l.floor+many]
}
