package loom_test

import (
	"strings"
	"testing"

	"loom/api"
	"loom/loom"
)

func TestIndices(t *testing.T) {
	askAll(t, api.ErrIndex,
		// Types of functions.
		"03 [ 01 ! 00 ] "+noCode, noType+"03 [ 01 ! 01 ] "+noCode, noType+"03 [ 02 00 ! 81 00 ] 0a [ 02 [ 00 0b ] [ 00 0b ] ]", noType+"03 [ 01 ! ff ff ff ff 0f ] "+noCode,
		// Exports.
		"07 [ 01 [ 'a ] 00 ! 00 ]", "07 [ 01 [ 'a ] 01 ! 00 ]", "07 [ 01 [ 'a ] 02 ! 00 ]", "07 [ 01 [ 'a ] 03 ! 00 ]",
		oneFunc+"07 [ 01 [ 'a ] 00 ! 01 ] "+noCode, table+"07 [ 01 [ 'a ] 01 ! 01 ]", memory+"07 [ 01 [ 'a ] 02 ! 81 00 ]", globals+"07 [ 01 [ 'a ] 03 ! 02 ]",
		// The start.
		"08 [ ! 00 ]", oneFunc+"08 [ ! 81 00 ] "+noCode,
		// Elements and data.
		"09 [ 01 ! 00 41 00 0b 00 ]", memory+"09 [ 01 ! 00 42 00 0b 01 05 ]", table+"09 [ 01 00 41 00 0b 01 ! 00 ]", oneFunc+table+"09 [ 02 00 41 00 0b 01 00 00 41 00 0b 02 00 ! 01 ] "+noCode,
		"0b [ 01 ! 00 41 00 0b 00 ]", table+"0b [ 01 ! 00 42 00 0b 00 ]")
	askAll(t, api.OK,
		oneFunc+"07 [ 01 [ 'a ] 00 00 ] "+noCode, table+"07 [ 01 [ 'a ] 01 00 ]", memory+"07 [ 01 [ 'a ] 02 00 ]", globals+"07 [ 01 [ 'a ] 03 01 ]",
		oneFunc+"08 [ 00 ] "+noCode, oneFunc+table+"09 [ 01 00 41 00 0b 02 00 00 ] "+noCode, memory+"0b [ 01 00 41 00 0b 00 ]")
}

func TestLimits(t *testing.T) {
	askAll(t, api.OK, "04 [ 01 70 00 14 ]", "04 [ 01 70 01 14 14 ]", "04 [ 01 70 01 00 00 ]", "05 [ 01 00 10 ]", "05 [ 01 01 10 10 ]", "05 [ 01 01 00 00 ]")
	askAll(t, api.ErrLimit, "04 [ 01 70 ! 00 15 ]", "04 [ 01 70 ! 01 05 15 ]", "04 [ 01 70 ! 01 05 04 ]", "04 [ 01 70 ! 01 15 15 ]", "04 [ 01 70 ! 00 ff ff ff ff 0f ]",
		"05 [ 01 ! 00 11 ]", "05 [ 01 ! 01 01 11 ]", "05 [ 01 ! 01 02 01 ]", "05 [ 01 ! 01 11 11 ]", "05 [ 01 ! 01 00 ff ff ff ff 0f ]")
}

func TestConstantKinds(t *testing.T) {
	askAll(t, api.OK, globals, "06 [ 02 7f 00 41 00 0b 7e 01 42 00 0b ]")
	askAll(t, api.ErrKind, "06 [ 01 7f 00 ! 42 00 0b ]", "06 [ 01 7e 01 ! 41 00 0b ]", "06 [ 02 7f 00 41 00 0b 7e 00 ! 41 00 0b ]",
		table+"09 [ 01 00 ! 42 00 0b 01 00 ]", memory+"0b [ 01 00 ! 42 00 0b 00 ]",
		"01 [ 01 60 01 7f 00 ] 03 [ 01 00 ] 08 [ ! 00 ] "+noCode, "01 [ 01 60 00 01 7f ] 03 [ 01 00 ] 08 [ ! 80 00 ] 0a [ 01 [ 00 00 0b ] ]")
}

func TestTwice(t *testing.T) {
	askAll(t, api.OK, memory+"07 [ 02 [ 'a ] 02 00 [ 'A ] 02 00 ]", memory+"07 [ 02 [ 'a ] 02 00 [ ] 02 00 ]")
	askAll(t, api.ErrTwice, memory+"07 [ 02 [ 'a ] 02 00 ! [ 'a ] 02 00 ]", memory+"07 [ 02 [ ] 02 00 ! [ ] 02 00 ]",
		table+memory+"07 [ 03 [ 'a ] 02 00 [ 'b ] 02 00 ! 81 00 'a 01 00 ]")
}

// Of several things that do not fit, the first one in the order of the bytes is told; bytes that are no module come ahead of all.
func TestOrder(t *testing.T) {
	ask(t, "03 [ 01 ! 00 ] 05 [ 01 00 11 ] "+noCode, api.ErrIndex)
	ask(t, "04 [ 01 70 ! 00 15 ] 05 [ 01 00 11 ] 06 [ 01 7f 00 42 00 0b ]", api.ErrLimit)
	ask(t, "06 [ 01 7f 00 ! 42 00 0b ] 07 [ 01 [ 'a ] 02 00 ]", api.ErrKind)
	ask(t, "05 [ 01 00 01 ] 07 [ 02 [ 'a ] 02 ! 01 [ 'a ] 02 00 ]", api.ErrIndex)
	ask(t, "05 [ 01 00 01 ] 07 [ 02 [ 'a ] 02 00 ! [ 'a ] 02 01 ]", api.ErrTwice)
	ask(t, "07 [ 01 [ 'a ] 03 ! 00 ] 08 [ 00 ]", api.ErrIndex)
	ask(t, "08 [ ! 00 ] 09 [ 01 00 41 00 0b 00 ]", api.ErrIndex)
	ask(t, oneFunc+table+"09 [ 01 00 ! 42 00 0b 01 05 ] 0a [ 01 [ 00 1a 0b ] ]", api.ErrKind)
	ask(t, oneFunc+"0a [ 01 [ 00 ! 1a 0b ] ] 0b [ 01 00 41 00 0b 00 ]", api.ErrKind)
	ask(t, noType+"03 [ 02 00 00 ] 0a [ 02 [ 00 ! 1a 0b ] [ 00 0c 05 0b ] ]", api.ErrKind)
	ask(t, noType+"03 [ 02 00 00 ] 0a [ 02 [ 00 0c ! 05 0b ] [ 00 1a 0b ] ]", api.ErrIndex)
	ask(t, "03 [ 01 00 ] 05 [ 01 00 11 ] 0a [ 01 [ 00 1a ! 06 0b ] ]", api.ErrBytes)
	ask(t, "05 [ 01 00 11 ] 0b [ 00 ! 00 ]", api.ErrBytes)
}

// code is a module with a memory, a table, two globals and a function of these types' first, which has a local of each kind; i and l are the kinds.
func code(types []string, body string) string {
	section := digits(u(len(types)))
	for _, t := range types {
		in, out, _ := strings.Cut(t, ">")
		section += "60 " + kinds(in) + kinds(out)
	}
	return "01 [ " + section + "] 03 [ 01 00 ] " + table + memory + globals + "0a [ 01 [ 02 01 7f 01 7e " + body + " ] ]"
}

// kinds writes i and l as a vector of kinds.
func kinds(of string) string {
	return digits(u(len(of)) + strings.NewReplacer("i", "\x7f", "l", "\x7e").Replace(of))
}

// codes asks of bodies of a function of one type.
func codes(t *testing.T, want api.Errno, kind string, bodies ...string) {
	t.Helper()
	for _, body := range bodies {
		ask(t, code([]string{kind}, body), want)
	}
}

// What each instruction takes and puts: it fits with just that, and neither with another kind nor with one less, nor is what it puts another.
func TestWordKinds(t *testing.T) {
	words := map[string]string{
		"01": ">", "1a": "i>", "20 00": ">i", "20 01": ">l", "21 00": "i>", "21 01": "l>", "22 00": "i>i", "22 01": "l>l",
		"23 00": ">i", "23 01": ">l", "24 00": "i>", "28 02 00": "i>i", "29 03 00": "i>l", "2c 00 00": "i>i", "2d 00 00": "i>i",
		"36 02 00": "ii>", "37 03 00": "il>", "3a 00 00": "ii>", "3f 00": ">i", "40 00": "i>i", "41 00": ">i", "42 00": ">l",
		"45": "i>i", "50": "l>i", "a7": "l>i", "ac": "i>l", "ad": "i>l", "02 7f 41 00 0b": ">i", "03 7e 42 00 0b": ">l",
	}
	for b := range 256 {
		word := strings.TrimSpace(digits(string([]byte{byte(b)})))
		switch {
		case 0x46 <= b && b <= 0x4f:
			words[word] = "ii>i"
		case 0x51 <= b && b <= 0x5a:
			words[word] = "ll>i"
		case 0x67 <= b && b <= 0x69:
			words[word] = "i>i"
		case 0x6a <= b && b <= 0x78:
			words[word] = "ii>i"
		case 0x79 <= b && b <= 0x7b:
			words[word] = "l>l"
		case 0x7c <= b && b <= 0x8a:
			words[word] = "ll>l"
		}
	}
	for word, kind := range words {
		in, out, _ := strings.Cut(kind, ">")
		ask(t, code([]string{">" + out}, puts(in)+word+" 0b"), api.OK)
		ask(t, code([]string{">" + out}, "00 "+word+" 0b"), api.OK)
		if in != "" {
			ask(t, code([]string{">" + out}, puts(in[1:])+"! "+word+" 0b"), api.ErrKind)
		}
		for i := range len(in) {
			if word != "1a" {
				ask(t, code([]string{">" + out}, puts(in[:i]+other(in[i:i+1])+in[i+1:])+"! "+word+" 0b"), api.ErrKind)
			}
		}
		ask(t, code([]string{">" + out + "i"}, puts(in)+word+" ! 0b"), api.ErrKind)
		ask(t, code([]string{">"}, puts("i"+in)+word+" ! 0b"), api.ErrKind)
		if out != "" {
			ask(t, code([]string{">" + other(out)}, puts(in)+word+" ! 0b"), api.ErrKind)
			ask(t, code([]string{">"}, puts(in)+word+" ! 0b"), api.ErrKind)
		}
	}
}

// puts writes instructions that put these kinds.
func puts(kinds string) string {
	return strings.NewReplacer("i", "41 00 ", "l", "42 00 ").Replace(kinds)
}

// other gives the other kind of each.
func other(kinds string) string {
	return strings.NewReplacer("i", "l", "l", "i").Replace(kinds)
}

func TestSelect(t *testing.T) {
	codes(t, api.OK, ">i", "41 01 41 02 41 00 1b 0b", "00 1b 0b", "00 41 00 1b 0b", "00 41 01 41 00 1b 0b")
	codes(t, api.OK, ">l", "42 01 42 02 41 00 1b 0b", "00 1b 0b", "00 1b 1b 0b", "00 42 01 41 00 1b 0b")
	codes(t, api.ErrKind, ">i", "41 01 42 02 41 00 ! 1b 0b", "41 01 41 02 42 00 ! 1b 0b", "41 01 41 00 ! 1b 0b", "00 42 00 ! 1b 0b", "00 42 01 41 00 1b ! 0b", "00 41 01 42 01 41 00 ! 1b 0b")
	codes(t, api.OK, ">li", "00 1b 1b 41 00 0b", "00 1b 20 00 0b")
	codes(t, api.ErrKind, ">li", "00 1b 20 01 ! 0b")
}

func TestVariables(t *testing.T) {
	codes(t, api.OK, "il>l", "20 00 21 02 20 01 22 03 0b", "41 01 24 00 23 01 0b")
	codes(t, api.ErrIndex, "il>", "20 ! 04 1a 0b", "21 ! 04 0b", "42 00 22 ! 84 00 1a 0b", "23 ! 02 1a 0b", "24 ! 02 0b", "00 20 ! ff ff ff ff 0f 0b")
	codes(t, api.ErrKind, "il>", "20 00 ! 21 01 0b", "! 22 00 0b", "42 00 ! 24 01 0b", "42 00 ! 24 00 0b", "00 ! 24 01 0b")
	ask(t, noType+"03 [ 01 00 ] 0a [ 01 [ 00 20 ! 00 0b ] ]", api.ErrIndex)
	ask(t, noType+"03 [ 01 00 ] 0a [ 01 [ 00 23 ! 00 0b ] ]", api.ErrIndex)
}

func TestMemoryWords(t *testing.T) {
	codes(t, api.OK, ">", "41 00 28 00 ff ff ff ff 0f 1a 0b", "41 00 29 00 00 1a 0b", "41 00 41 00 36 00 00 0b", "41 00 42 00 37 00 00 0b")
	codes(t, api.ErrKind, ">", "41 00 ! 28 03 00 1a 0b", "41 00 ! 29 04 00 1a 0b", "41 00 ! 2c 01 00 1a 0b", "41 00 ! 2d 01 00 1a 0b", "00 ! 36 03 00 0b", "00 ! 37 04 00 0b", "00 ! 3a 01 00 0b", "00 ! 28 ff ff ff ff 0f 00 0b")
	for _, word := range []string{"28 02 00", "29 09 00", "2c 00 00", "2d 01 00", "36 02 00", "37 03 00", "3a 00 00", "3f 00", "40 00"} {
		ask(t, oneFunc+"0a [ 01 [ 00 ! "+word+" 0b ] ]", api.ErrIndex)
		ask(t, oneFunc+table+"0a [ 01 [ 00 00 ! "+word+" 1a 0b ] ]", api.ErrIndex)
	}
}

func TestCalls(t *testing.T) {
	codes(t, api.OK, "il>li", "20 00 20 01 10 00 0b", "20 00 20 01 41 00 11 00 00 0b", "00 10 00 0b", "00 11 00 00 0b")
	codes(t, api.ErrIndex, ">", "10 ! 01 0b", "41 00 11 ! 01 00 0b", "11 ! 81 00 00 0b", "00 10 ! ff ff ff ff 0f 0b")
	codes(t, api.ErrKind, "il>li", "20 01 20 00 ! 10 00 0b", "20 01 ! 10 00 0b", "20 00 20 01 ! 11 00 00 0b", "20 00 20 01 42 00 ! 11 00 00 0b", "20 00 20 01 10 00 1a ! 0b", "20 00 20 01 10 00 ! 10 00 0b")
	askAll(t, api.ErrIndex, oneFunc+"0a [ 01 [ 00 41 00 ! 11 00 00 0b ] ]", oneFunc+"0a [ 01 [ 00 ! 11 05 00 0b ] ]", oneFunc+memory+"0a [ 01 [ 00 00 ! 11 00 00 0b ] ]")
}

func TestBlocks(t *testing.T) {
	types := []string{">", "i>l", "li>li", "i>"}
	fits := []string{
		"02 40 0b 0b", "03 40 0b 0b", "41 00 04 40 0b 0b", "41 00 04 40 05 0b 0b", "02 00 0b 0b",
		"41 01 02 01 ac 0b 1a 0b", "42 00 41 01 02 02 0b 1a 1a 0b", "42 00 41 01 41 02 04 02 0b 1a 1a 0b", "41 01 41 02 04 01 ac 05 ad 0b 1a 0b",
		"41 01 41 02 04 01 ac 05 00 0b 1a 0b", "41 01 03 01 ac 0b 1a 0b", "00 02 01 1a 42 00 0b 1a 0b", "00 04 02 0b 1a 1a 0b",
	}
	for _, body := range fits {
		ask(t, code(types, body), api.OK)
	}
	wrong := []string{
		// What a block takes.
		"! 02 01 ac 0b 1a 0b", "42 00 ! 02 01 ac 0b 1a 0b", "! 04 40 0b 0b", "42 00 ! 04 40 0b 0b", "41 00 ! 04 01 ac 05 ac 0b 1a 0b", "41 00 42 00 ! 04 40 0b 1a 0b", "41 01 42 00 ! 02 02 0b 1a 1a 0b",
		// What lies below cannot be taken.
		"41 00 02 40 ! 1a 0b 0b", "41 00 02 40 41 00 ! 6a 1a 0b 1a 0b", "41 00 41 00 04 40 ! 1a 05 1a 0b 0b",
		// What a block gives.
		"41 01 02 01 ! 0b 1a 0b", "02 7f ! 0b 1a 0b", "02 7f 42 00 ! 0b 1a 0b", "02 7f 41 00 41 00 ! 0b 1a 0b", "02 40 41 00 ! 0b 0b", "03 7f ! 0b 1a 0b", "42 00 41 00 02 02 1a ! 0b 1a 1a 0b",
		"02 7f 41 00 0b ! 0b", "41 00 02 40 0b ! 0b",
		// Else, and an if without it.
		"41 00 04 7f 41 00 05 ! 0b 1a 0b", "41 00 04 7f ! 05 41 00 0b 1a 0b", "41 00 04 7f 42 00 ! 05 41 00 0b 1a 0b", "41 00 04 40 41 00 ! 05 0b 0b", "41 00 04 7f 41 00 ! 0b 1a 0b", "41 00 04 7f 00 ! 0b 1a 0b",
		"41 00 41 00 04 01 ac ! 0b 1a 0b", "41 00 41 00 04 01 ac 05 ! 0b 1a 0b", "41 00 41 00 04 03 1a ! 0b 0b", "41 00 41 00 04 01 ac 05 42 00 ! 0b 1a 0b",
	}
	for _, body := range wrong {
		ask(t, code(types, body), api.ErrKind)
	}
	for _, body := range []string{"02 ! 04 0b 0b", "03 ! 84 00 0b 0b", "04 ! 04 0b 0b", "00 02 ! ff ff ff ff 0f 0b 0b", "02 40 02 ! 05 0b 0b 0b"} {
		ask(t, code(types, body), api.ErrIndex)
	}
}

func TestLabels(t *testing.T) {
	codes(t, api.OK, ">i", "41 01 0c 00 0b", "42 00 41 01 0c 00 0b", "41 01 41 00 0d 00 0b", "02 40 41 01 0c 01 0b 00 0b", "02 7f 41 01 0c 00 0b 0b", "03 7f 0c 00 0b 0b", "03 7f 41 00 0d 00 41 01 0b 0b", "02 7e 42 00 0c 00 0b a7 0b", "00 0c 00 0b",
		"41 00 04 7f 41 01 0c 00 05 41 02 0c 01 0b 0b", "41 05 0f 0b", "42 00 41 05 0f 0b", "02 40 41 05 0f 0b 41 00 0b")
	codes(t, api.ErrIndex, ">i", "0c ! 01 0b", "0d ! 01 0b", "02 40 0c ! 02 0b 0b", "02 40 0b 0c ! 01 0b", "00 0c ! ff ff ff ff 0f 0b", "02 40 41 00 04 40 05 0d ! 83 00 0b 0b 0b", "42 00 0c ! 01 0b")
	codes(t, api.ErrKind, ">i", "! 0c 00 0b", "42 00 ! 0c 00 0b", "41 01 ! 0d 00 0b", "41 01 42 00 ! 0d 00 0b", "41 00 ! 0d 00 1a 0b", "42 01 41 00 ! 0d 00 0b", "41 05 02 40 ! 0c 01 0b 0b", "03 7f ! 0d 00 41 00 0b 0b", "02 7e 41 00 ! 0c 00 0b 1a 41 00 0b",
		"! 0f 0b", "42 05 ! 0f 0b", "02 7e 42 00 ! 0f 0b 1a 41 00 0b")
	// What br_if puts is known, even where what it took was not.
	codes(t, api.OK, ">i", "00 0d 00 0b", "00 0d 00 45 0b")
	codes(t, api.ErrKind, ">i", "00 0d 00 ! 50 0b")
	// The label of a loop takes what the loop takes, with a type's index.
	ask(t, code([]string{">", "i>"}, "41 01 03 01 0c 00 0b 0b"), api.OK)
	ask(t, code([]string{">", "i>"}, "41 01 03 01 1a ! 0c 00 0b 0b"), api.ErrKind)
	ask(t, code([]string{">", "i>"}, "41 01 02 01 1a 0c 00 0b 0b"), api.OK)
}

func TestLabelTables(t *testing.T) {
	codes(t, api.OK, ">i", "41 01 41 00 0e 00 00 0b", "41 01 41 00 0e 02 00 00 00 0b", "02 7f 41 01 41 00 0e 01 00 01 0b 0b", "00 0e 01 00 00 0b",
		"02 7e 00 41 00 0e 01 00 01 0b a7 0b", "02 7e 00 0e 03 00 01 00 01 0b a7 0b", "03 40 41 00 0e 01 00 00 0b 00 0b")
	codes(t, api.ErrIndex, ">i", "0e 01 ! 01 00 0b", "0e 01 00 ! 01 0b", "42 00 0e 02 00 ! 02 01 0b", "0e 00 ! 81 00 0b", "02 40 0e 02 01 ! 02 03 0b 0b")
	codes(t, api.ErrKind, ">i", "41 01 ! 0e 00 00 0b", "! 0e 00 00 0b", "41 01 42 00 ! 0e 00 00 0b", "42 01 41 00 ! 0e 00 00 0b",
		// Another number of kinds than the last label takes.
		"02 40 41 01 41 00 ! 0e 01 00 01 0b 00 0b", "02 40 41 01 41 00 ! 0e 01 01 00 0b 00 0b", "00 02 40 00 ! 0e 01 00 01 0b 0b",
		// What lies there must fit each.
		"02 7e 42 01 41 00 ! 0e 01 00 01 0b a7 0b", "02 7e 41 01 41 00 ! 0e 01 00 01 0b a7 0b", "02 7e 00 41 01 41 00 ! 0e 01 00 01 0b a7 0b")
	// Below a kind that is known lies what is unknown.
	ask(t, code([]string{">ii", ">li", ">ll"}, "02 01 00 41 01 41 00 0e 01 00 01 0b 00 0b"), api.OK)
	ask(t, code([]string{">ii", ">li", ">ll"}, "02 02 00 41 01 41 00 ! 0e 01 00 01 0b 00 0b"), api.ErrKind)
}

func TestCutOffCode(t *testing.T) {
	for _, jump := range []string{"00", "0c 00", "41 00 0e 00 00", "0f"} {
		codes(t, api.OK, ">", jump+" 0b", jump+" 1a 1a 0b", jump+" 6a 1a 0b", jump+" 7c a7 6a 21 00 0b", "41 01 42 02 "+jump+" 0b", jump+" 02 7f 41 00 0b 1a 0b", "02 40 "+jump+" 1a 0b 0b")
		codes(t, api.ErrKind, ">", jump+" 41 01 ! 0b", jump+" 6a ! 0b", jump+" 42 00 ! 6a 1a 0b", jump+" 7c ! 6a 1a 0b", jump+" 02 40 ! 1a 0b 0b", "02 40 "+jump+" 0b ! 1a 0b", "41 00 04 40 "+jump+" 05 ! 1a 0b 0b")
	}
}

// The examples 1 and 3 of the document, with the places that it tells.
func TestExamples(t *testing.T) {
	ask(t, "01 [ 01 60 01 7f 01 7f ] 03 [ 01 00 ] 07 [ 01 [ 'id ] 00 00 ] 0a [ 01 [ 00 20 00 0b ] ] 00 [ 04 'name 01 [ 01 00 [ 'id ] ] 02 [ 01 00 01 00 [ 'x ] ] ]", api.OK)
	for _, c := range []struct {
		body string
		want api.Errno
		to   int
	}{
		{"41 01 0b", api.ErrKind, 25}, {"1a 0b", api.ErrKind, 23}, {"00 6a 1a 0b", api.OK, 0}, {"0c 01 0b", api.ErrIndex, 24},
	} {
		bytes, _ := build(t, head+oneFunc+"0a [ 01 [ 00 "+c.body+" ] ]")
		if errno, at := loom.Check(bytes); errno != c.want || at != c.to {
			t.Errorf("P4: Check(%x) = %d, %d, want %d, %d", bytes, errno, at, c.want, c.to)
		}
	}
}
