package code

import "loom/scan"

// Kind is what a value is, as the byte that tells it.
type Kind byte

const (
	Unknown Kind = 0 // any kind: what is taken where nothing comes to
	I32     Kind = 0x7f
	I64     Kind = 0x7e
)

// nothing is the byte of a block that takes and gives nothing.
const nothing byte = 0x40

// TakeKind takes the byte of a kind.
func TakeKind(r *scan.Reader) Kind {
	return Kind(r.One(byte(I32), byte(I64)))
}
