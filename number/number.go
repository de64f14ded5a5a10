// Package number: what instructions make of numbers, of 32 and of 64 bits alike.
package number

import (
	"math/bits"

	"loom/api"
)

// The comparisons, in the order of their bytes.
const (
	Eqz byte = iota
	Eq
	Ne
	LtS
	LtU
	GtS
	GtU
	LeS
	LeU
	GeS
	GeU
)

// What else is made of one number (up to Popcnt) or two, in the order of its bytes.
const (
	Clz byte = iota
	Ctz
	Popcnt
	Add
	Sub
	Mul
	DivS
	DivU
	RemS
	RemU
	And
	Or
	Xor
	Shl
	ShrS
	ShrU
	Rotl
	Rotr
)

// Unsigned are numbers as bits.
type Unsigned interface{ uint32 | uint64 }

// Signed are the same with a sign: a call must name those that have as many bits.
type Signed interface{ int32 | int64 }

// Compare tells whether a comparison holds. Eqz is asked with 0 as the second number.
func Compare[S Signed, U Unsigned](which byte, a, b U) bool {
	switch which {
	case Eqz, Eq:
		return a == b
	case Ne:
		return a != b
	case LtS:
		return S(a) < S(b)
	case LtU:
		return a < b
	case GtS:
		return S(a) > S(b)
	case GtU:
		return a > b
	case LeS:
		return S(a) <= S(b)
	case LeU:
		return a <= b
	case GeS:
		return S(a) >= S(b)
	}
	return a >= b
}

// Compute gives what is made of two numbers (up to Popcnt: of the first one), or why it is broken off.
func Compute[S Signed, U Unsigned](which byte, a, b U) (U, int) {
	switch {
	case which <= Popcnt:
		return count(which, a), 0
	case which <= Mul:
		return sum(which, a, b), 0
	case which <= RemU:
		return divide[S](which, a, b)
	case which <= Xor:
		return mix(which, a, b), 0
	}
	return shift[S](which, a, int(b%U(size[U]()))), 0
}

// size tells how many bits a number has.
func size[U Unsigned]() int { return bits.Len64(uint64(^U(0))) }

func count[U Unsigned](which byte, a U) U {
	switch which {
	case Clz:
		return U(size[U]() - bits.Len64(uint64(a)))
	case Ctz:
		// Of 0 those that 64 bits have would be counted.
		return U(min(bits.TrailingZeros64(uint64(a)), size[U]()))
	}
	return U(bits.OnesCount64(uint64(a)))
}

func sum[U Unsigned](which byte, a, b U) U {
	switch which {
	case Add:
		return a + b
	case Sub:
		return a - b
	}
	return a * b
}

func divide[S Signed, U Unsigned](which byte, a, b U) (U, int) {
	least := U(1) << (size[U]() - 1)
	switch {
	case b == 0:
		return 0, api.Nought
	case which == DivU:
		return a / b, 0
	case which == RemU:
		return a % b, 0
	case which == DivS && a == least && b == ^U(0):
		return 0, api.Over
	case which == DivS:
		return U(S(a) / S(b)), 0
	}
	return U(S(a) % S(b)), 0
}

func mix[U Unsigned](which byte, a, b U) U {
	switch which {
	case And:
		return a & b
	case Or:
		return a | b
	}
	return a ^ b
}

func shift[S Signed, U Unsigned](which byte, a U, n int) U {
	switch which {
	case Shl:
		return a << n
	case ShrS:
		return U(S(a) >> n)
	case ShrU:
		return a >> n
	case Rotl:
		return a<<n | a>>(size[U]()-n)
	}
	return a>>n | a<<(size[U]()-n)
}
