package code

// The words of the instructions, as a text has them: of the bytes up to the constants by their byte, of those behind without their kind, which they share.
var (
	early = [...]string{
		Unreachable:  "unreachable",
		Nop:          "nop",
		Block:        "block",
		Loop:         "loop",
		If:           "if",
		Else:         "else",
		End:          "end",
		Br:           "br",
		BrIf:         "br_if",
		BrTable:      "br_table",
		Return:       "return",
		Call:         "call",
		CallIndirect: "call_indirect",
		Drop:         "drop",
		Select:       "select",
		LocalGet:     "local.get",
		LocalSet:     "local.set",
		LocalTee:     "local.tee",
		GlobalGet:    "global.get",
		GlobalSet:    "global.set",
		I32Load:      "i32.load",
		I64Load:      "i64.load",
		I32Load8S:    "i32.load8_s",
		I32Load8U:    "i32.load8_u",
		I32Store:     "i32.store",
		I64Store:     "i64.store",
		I32Store8:    "i32.store8",
		MemorySize:   "memory.size",
		MemoryGrow:   "memory.grow",
		I32Const:     "i32.const",
		I64Const:     "i64.const",
	}
	compares = [...]string{"eqz", "eq", "ne", "lt_s", "lt_u", "gt_s", "gt_u", "le_s", "le_u", "ge_s", "ge_u"}
	computes = [...]string{"clz", "ctz", "popcnt", "add", "sub", "mul", "div_s", "div_u", "rem_s", "rem_u", "and", "or", "xor", "shl", "shr_s", "shr_u", "rotl", "rotr"}
)

// Spell gives the word of an instruction's byte; of a byte that is none, nothing.
func Spell(word byte) string {
	switch {
	case int(word) < len(early):
		return early[word]
	case I32Eqz <= word && word <= I32GeU:
		return "i32." + compares[word-I32Eqz]
	case I64Eqz <= word && word <= I64GeU:
		return "i64." + compares[word-I64Eqz]
	case I32Clz <= word && word <= I32Rotr:
		return "i32." + computes[word-I32Clz]
	case I64Clz <= word && word <= I64Rotr:
		return "i64." + computes[word-I64Clz]
	}
	return spellChange(word)
}

// spellChange gives the word of an instruction that makes one kind of the other.
func spellChange(word byte) string {
	switch word {
	case I32Wrap:
		return "i32.wrap_i64"
	case I64ExtendS:
		return "i64.extend_i32_s"
	case I64ExtendU:
		return "i64.extend_i32_u"
	}
	return ""
}

// Words gives the bytes of all instructions by their words.
func Words() map[string]byte {
	words := map[string]byte{}
	for b := range 256 {
		if word := Spell(byte(b)); word != "" {
			words[word] = byte(b)
		}
	}
	return words
}

// String gives the word of a kind.
func (k Kind) String() string {
	switch k {
	case I32:
		return "i32"
	case I64:
		return "i64"
	}
	return ""
}

// KindOf gives the kind of a word; Unknown if it is no kind's.
func KindOf(word string) Kind {
	switch word {
	case I32.String():
		return I32
	case I64.String():
		return I64
	}
	return Unknown
}
