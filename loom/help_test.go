package loom_test

import (
	"encoding/hex"
	"strings"
	"testing"

	"loom/api"
	"loom/loom"
)

// A module in these tests is written as words with blanks between: bytes as two digits; `'abc` for these letters; `[` and `]` around what has its size ahead; `!` ahead of the byte of which the place is asked for (at the end: behind the last one). `u` ahead of the digits of a U, or of `[`, and `s` ahead of those of an S: this number, or size, is written longer than it needs to be.

const head = "00 'asm 01 00 00 00 "

// build gives the bytes that are written so, and the place that is marked (0 without a mark).
func build(t *testing.T, text string) (string, int) {
	t.Helper()
	bytes, at, rest := part(t, strings.Fields(text))
	if len(rest) > 0 {
		t.Fatalf("a ] too many: %s", text)
	}
	return bytes, max(at, 0)
}

// part builds up to a closing bracket; the place is -1 if it is not in there.
func part(t *testing.T, words []string) (bytes string, at int, rest []string) {
	t.Helper()
	at = -1
	for len(words) > 0 {
		w := words[0]
		words = words[1:]
		switch {
		case w == "]":
			return bytes, at, append([]string{w}, words...)
		case w == "[", w == "u[":
			inner, innerAt, behind := part(t, words)
			if len(behind) == 0 {
				t.Fatal("a ] is missing")
			}
			words = behind[1:]
			size := u(len(inner))
			if w == "u[" {
				size = longer(size, 0)
			}
			bytes += size
			if innerAt >= 0 {
				at = len(bytes) + innerAt
			}
			bytes += inner
		case w == "!":
			at = len(bytes)
		case w[0] == '\'':
			bytes += w[1:]
		case w[0] == 'u':
			bytes += longer(raw(t, w[1:]), 0)
		case w[0] == 's':
			number := raw(t, w[1:])
			if number[len(number)-1]&0x40 != 0 {
				bytes += longer(number, 0x7f)
			} else {
				bytes += longer(number, 0)
			}
		default:
			bytes += raw(t, w)
		}
	}
	return bytes, at, nil
}

// raw gives the bytes of digits.
func raw(t *testing.T, digits string) string {
	t.Helper()
	b, err := hex.DecodeString(digits)
	if err != nil || len(b) == 0 {
		t.Fatalf("%s: %v", digits, err)
	}
	return string(b)
}

// longer writes a number with two bytes more, filled up with these bits.
func longer(number string, fill byte) string {
	last := len(number) - 1
	return number[:last] + string([]byte{number[last] | 0x80, fill | 0x80, fill})
}

// short gives a text with no number longer than it needs to be.
func short(text string) string {
	words := strings.Fields(text)
	for i, w := range words {
		if w[0] == 'u' || w[0] == 's' {
			words[i] = w[1:]
		}
	}
	return strings.Join(words, " ")
}

// u writes a number as short as it can be.
func u(n int) string {
	if n < 128 {
		return string([]byte{byte(n)})
	}
	return string([]byte{byte(n) | 128}) + u(n>>7)
}

// digits writes bytes as digits, for use in a text that is built.
func digits(bytes string) string { return " " + hex.EncodeToString([]byte(bytes)) + " " }

// ask checks a text behind the head: the place that is asked for is the one that is marked.
func ask(t *testing.T, text string, want api.Errno) {
	t.Helper()
	bytes, to := build(t, head+text)
	if errno, at := loom.Check(bytes); errno != want || at != to {
		t.Errorf("Check(%s) = %d, %d, want %d, %d", text, errno, at, want, to)
	}
}

func askAll(t *testing.T, want api.Errno, texts ...string) {
	t.Helper()
	for _, text := range texts {
		ask(t, text, want)
	}
}

// many repeats a text.
func many(n int, text string) string { return strings.Repeat(text+" ", n) }

const (
	noType  = "01 [ 01 60 00 00 ] " // one type: nothing in, nothing out
	oneFunc = noType + "03 [ 01 00 ] "
	table   = "04 [ 01 70 00 05 ] "
	memory  = "05 [ 01 00 01 ] "
	// One global that can be set, one that cannot.
	globals = "06 [ 02 7f 01 41 05 0b 7e 00 42 05 0b ] "
	noCode  = "0a [ 01 [ 00 0b ] ] " // the code of one function that does nothing
)

// sample is a module that has every section, and fits.
const sample = "01 [ 03 60 01 7f 01 7f 60 00 00 60 02 7e 7f 01 7e ] " +
	"03 [ 03 00 01 02 ] " +
	"04 [ 01 70 01 02 05 ] " +
	"05 [ 01 01 01 10 ] " +
	globals +
	"07 [ 04 [ 'id ] 00 00 [ 'table ] 01 00 [ ] 02 00 [ 'g ] 03 01 ] " +
	"08 [ 01 ] " +
	"09 [ 02 00 41 00 0b 02 00 01 00 41 7f 0b 00 ] " +
	"0a [ 03 " +
	"[ 01 01 7e 20 00 41 0a 48 04 7f 20 00 05 20 00 41 01 6b 10 00 0b 0b ] " +
	"[ 00 02 40 41 00 0e 01 00 01 0b 41 00 28 02 04 23 00 6a 24 00 41 00 11 01 00 0b ] " +
	"[ 02 02 7f 01 7e 20 00 20 01 ac 7c 42 80 7f 20 01 1b 0b ] ] " +
	"0b [ 02 00 41 08 0b [ 'hello ] 00 41 00 0b [ ] ] " +
	"00 [ 04 'name 01 [ 02 00 [ 'id ] 02 [ 'f.2_A ] ] 02 [ 02 00 01 00 [ 'x ] 02 02 00 [ 'a ] 04 [ 'b ] ] ] "
