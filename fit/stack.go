package fit

import (
	"loom/api"
	"loom/code"
	"loom/fault"
	"loom/module"
)

// body is a code that is gone through.
type body struct {
	module *module.Module
	locals []code.Kind // params too
	stack  []code.Kind
	blocks []block // the first one is the code itself
	at     int     // the place of the instruction that is looked at
}

// block is one in which the instruction stands that is looked at.
type block struct {
	word         byte
	takes, gives []code.Kind
	floor        int  // how many kinds lie below what can be taken in it
	cut          bool // nothing comes to the instruction: what is taken from below is unknown
}

// labelTakes gives the kinds that a jump to the block needs.
func (b block) labelTakes() []code.Kind {
	if b.word == code.Loop {
		return b.takes
	}
	return b.gives
}

func (b *body) inner() *block { return &b.blocks[len(b.blocks)-1] }

func (b *body) refuseKinds() { fault.GiveUp(api.ErrKind, b.at) }

func (b *body) put(kinds ...code.Kind) { b.stack = append(b.stack, kinds...) }

// takeAny takes what lies at the top.
func (b *body) takeAny() code.Kind {
	if len(b.stack) == b.inner().floor {
		if !b.inner().cut {
			b.refuseKinds()
		}
		return code.Unknown
	}
	top := len(b.stack) - 1
	kind := b.stack[top]
	b.stack = b.stack[:top]
	return kind
}

// take takes these kinds, the last one at the top.
func (b *body) take(kinds ...code.Kind) {
	for i := len(kinds) - 1; i >= 0; i-- {
		if got := b.takeAny(); got != kinds[i] && got != code.Unknown {
			b.refuseKinds()
		}
	}
}

// lookFor makes sure that these kinds could be taken, and leaves what lies there as it is.
func (b *body) lookFor(kinds []code.Kind) {
	kept := b.stack
	b.take(kinds...)
	b.stack = kept
}

// cutOff throws away what lies in the innermost block: nothing comes to what follows.
func (b *body) cutOff() {
	b.stack = b.stack[:b.inner().floor]
	b.inner().cut = true
}

// enter begins a block with what it takes.
func (b *body) enter(word byte, t module.Type) {
	b.take(t.In...)
	b.blocks = append(b.blocks, block{word: word, takes: t.In, gives: t.Out, floor: len(b.stack)})
	b.put(t.In...)
}

// leave ends the innermost block, in which just what it gives must lie, and takes that away.
func (b *body) leave() block {
	left := *b.inner()
	b.take(left.gives...)
	if len(b.stack) != left.floor {
		b.refuseKinds()
	}
	b.blocks = b.blocks[:len(b.blocks)-1]
	return left
}
