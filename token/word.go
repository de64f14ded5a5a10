package token

import (
	"strconv"
	"strings"

	"loom/letter"
)

// bitsOfU is how many bits there are in an index, a label, a limit.
const bitsOfU = 32

// ID gives the name of an id; false if the token is none.
func (t Token) ID() (string, bool) {
	name, ok := strings.CutPrefix(t.Text, "$")
	return name, ok && t.Sort == Word && letter.Name(name)
}

// U gives the number that a word is; false if it is none, or too great.
func (t Token) U() (uint32, bool) {
	return t.setting("")
}

// Setting gives the number behind a name and `=`; false if the token is not such a word.
func (t Token) Setting(name string) (uint32, bool) {
	return t.setting(name + "=")
}

func (t Token) setting(ahead string) (uint32, bool) {
	digits, ok := strings.CutPrefix(t.Text, ahead)
	n, fits := number(digits, bitsOfU)
	return uint32(n), ok && fits && t.Sort == Word
}

// S gives a number of so many bits, which may be told with a sign or without, as one with a sign.
func (t Token) S(bits int) (int64, bool) {
	digits, minus := strings.CutPrefix(t.Text, "-")
	n, ok := number(digits, bits)
	if minus {
		ok = ok && n <= 1<<(bits-1)
		n = -n
	}
	// Of the bits that there are the highest one is the sign.
	spare := 64 - bits
	return int64(n) << spare >> spare, ok && t.Sort == Word
}

// number gives the number that digits tell; false if they tell none, or one that has more bits.
func number(digits string, bits int) (uint64, bool) {
	if len(digits) > 1 && digits[0] == '0' {
		return 0, false
	}
	n, err := strconv.ParseUint(digits, 10, bits)
	return n, err == nil
}
