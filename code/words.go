// Package code: kinds, and the instructions of a code.
package code

// The bytes of the instructions. Of those that lie side by side and are alike in what they take and put, only the first and the last one are told.
const (
	Unreachable  byte = 0x00
	Nop          byte = 0x01
	Block        byte = 0x02
	Loop         byte = 0x03
	If           byte = 0x04
	Else         byte = 0x05
	End          byte = 0x0b
	Br           byte = 0x0c
	BrIf         byte = 0x0d
	BrTable      byte = 0x0e
	Return       byte = 0x0f
	Call         byte = 0x10
	CallIndirect byte = 0x11
	Drop         byte = 0x1a
	Select       byte = 0x1b
	LocalGet     byte = 0x20
	LocalSet     byte = 0x21
	LocalTee     byte = 0x22
	GlobalGet    byte = 0x23
	GlobalSet    byte = 0x24
	I32Load      byte = 0x28
	I64Load      byte = 0x29
	I32Load8S    byte = 0x2c
	I32Load8U    byte = 0x2d
	I32Store     byte = 0x36
	I64Store     byte = 0x37
	I32Store8    byte = 0x3a
	MemorySize   byte = 0x3f
	MemoryGrow   byte = 0x40
	I32Const     byte = 0x41
	I64Const     byte = 0x42
	I32Eqz       byte = 0x45
	I32GeU       byte = 0x4f
	I64Eqz       byte = 0x50
	I64GeU       byte = 0x5a
	I32Clz       byte = 0x67
	I32Popcnt    byte = 0x69
	I32Rotr      byte = 0x78
	I64Clz       byte = 0x79
	I64Popcnt    byte = 0x7b
	I64Rotr      byte = 0x8a
	I32Wrap      byte = 0xa7
	I64ExtendS   byte = 0xac
	I64ExtendU   byte = 0xad
)

// bare tells whether a byte is an instruction behind which nothing stands.
func bare(word byte) bool {
	switch {
	case word == Unreachable, word == Nop, word == Else, word == End, word == Return, word == Drop, word == Select:
		return true
	case I32Eqz <= word && word <= I64GeU:
		return true
	case I32Clz <= word && word <= I64Rotr:
		return true
	}
	return word == I32Wrap || word == I64ExtendS || word == I64ExtendU
}

// UsualAlign gives the align that a load or store has if none is told: the greatest that it may have.
func UsualAlign(word byte) uint32 {
	switch word {
	case I32Load8S, I32Load8U, I32Store8:
		return 0
	case I64Load, I64Store:
		return 3
	}
	return 2
}
