package loom_test

import (
	"testing"

	"loom/api"
	"loom/loom"
)

// packs asks whether the module that is written so packs to the other one, and that one to itself.
func packs(t *testing.T, text, to string) {
	t.Helper()
	bytes, _ := build(t, head+text)
	want, _ := build(t, head+to)
	for _, b := range []string{bytes, want} {
		if got, errno, at := loom.Pack(b); got != want || errno != api.OK || at != 0 {
			t.Errorf("P5: Pack(%x), of %s = %x, %d, %d, want %x", b, text, got, errno, at, want)
		}
	}
	comesBack(t, bytes)
}

// shortens asks whether numbers that are longer than they need to be are all that is packed.
func shortens(t *testing.T, texts ...string) {
	t.Helper()
	for _, text := range texts {
		packs(t, text, short(text))
	}
}

func TestPackKeeps(t *testing.T) {
	packs(t, "", "")
	packs(t, sample, sample)
	packs(t, oneFunc+noCode, oneFunc+noCode)
	// What is in a section stays, even if there is nothing in that.
	for _, text := range []string{noType, "04 [ 01 70 00 00 ]", "05 [ 01 01 00 00 ]", memory + "07 [ 01 [ ] 02 00 ]", table + "09 [ 01 00 41 00 0b 00 ]", memory + "0b [ 02 00 41 00 0b [ ] 00 41 00 0b [ ] ]", oneFunc + "08 [ 00 ] " + noCode} {
		packs(t, text, text)
	}
	// A block keeps its type's index, even if that takes and gives nothing; so does an empty else.
	body := oneFunc + "0a [ 01 [ 00 02 00 0b 41 00 04 40 05 0b 0b ] ]"
	packs(t, body, body)
}

func TestPackNumbersOfSections(t *testing.T) {
	shortens(t,
		"01 u[ 01 60 00 00 ]", "01 [ u02 60 u01 7f u02 7e 7f 60 u00 u00 ]",
		noType+"03 u[ u01 u00 ] 0a u[ u01 u[ u00 0b ] ]",
		"04 u[ u01 70 00 u05 ]", "04 [ u01 70 01 u00 u14 ]", "05 u[ u01 00 u01 ]", "05 [ u01 01 u00 u10 ]",
		"06 u[ u02 7f 01 41 s05 0b 7e 00 42 s7b 0b ]",
		memory+"07 u[ u02 u[ 'a ] 02 u00 u[ ] 02 00 ]", oneFunc+table+globals+"07 [ 03 [ 'a ] 00 u00 [ 'b ] 01 u00 [ 'c ] 03 u01 ] "+noCode,
		oneFunc+"08 u[ u00 ] "+noCode,
		oneFunc+table+"09 u[ u02 00 41 s04 0b u02 u00 u00 00 41 s7f 0b u00 ] "+noCode,
		memory+"0b u[ u02 00 41 s00 0b u[ 'x ] 00 41 s40 0b u[ ] ]",
		oneFunc+"0a [ 01 [ u02 u01 7f u02 7e 0b ] ]",
	)
}

func TestPackNumbersOfNames(t *testing.T) {
	shortens(t, "01 [ 01 60 01 7f 00 ] 03 [ 02 00 00 ] 0a [ 02 [ 00 0b ] [ 01 01 7e 0b ] ] 00 u[ 04 'name 01 u[ u02 u00 u[ 'a ] u01 u[ 'b ] ] 02 u[ u02 u00 u01 u00 u[ 'x ] u01 u02 u00 u[ 'x ] u01 u[ 'y ] ] ]")
}

func TestPackNumbersOfInstructions(t *testing.T) {
	for _, body := range []string{
		"02 s00 0b", "03 s00 0b", "41 00 04 s00 0b", "02 40 0b", "02 7f 41 00 0b 1a", "03 7e 42 00 0b 1a",
		"0c u00", "41 00 0d u00", "41 00 0e u00 u00", "41 00 0e u02 u00 u00 u00", "02 40 02 40 41 00 0e u03 u02 u00 u01 u02 0b 0b",
		"10 u00", "41 00 11 u00 00", "20 u00 21 u00", "20 u01 22 u01 1a", "23 u00 24 u00", "23 u01 1a",
		"41 00 28 u02 u00 1a", "41 00 29 u03 u8001 1a", "41 00 2c u00 u7f 1a", "41 00 2d u00 ffffffff0f 1a",
		"41 00 41 00 36 u01 u01", "41 00 42 00 37 u00 u02", "41 00 41 00 3a u00 u03", "3f 00 40 00 1a",
	} {
		shortens(t, code([]string{">"}, body+" 0b"))
	}
}

// An S ends as soon as its last byte tells the sign.
func TestPackSigned(t *testing.T) {
	for _, number := range []string{"s00", "s01", "s3f", "sc000", "sff00", "sff3f", "s80c000", "ffffffff07", "s7f", "s40", "sbf7f", "s807f", "s8040", "sffbf7f", "8180808078", "8080808078"} {
		shortens(t, code([]string{">"}, "41 "+number+" 1a 42 "+number+" 1a 0b"), "06 [ 02 7f 00 41 "+number+" 0b 7e 00 42 "+number+" 0b ]")
	}
	for _, number := range []string{"s8080808008", "s8080808080808001", "ffffffffffffffffff00", "sffffffff77", "ffffffffffffffff40", "8080808080808080807f"} {
		shortens(t, code([]string{">"}, "42 "+number+" 1a 0b"), "06 [ 01 7e 00 42 "+number+" 0b ]")
	}
	packs(t, "06 [ 02 7e 00 42 80808080808080808000 0b 7e 00 42 ffffffffffffffffff7f 0b ]", "06 [ 02 7e 00 42 00 0b 7e 00 42 7f 0b ]")
}

func TestPackLocals(t *testing.T) {
	for from, to := range map[string]string{
		"00":                         "00",
		"01 00 7f":                   "00",
		"02 00 7e 00 7f":             "00",
		"01 03 7f":                   "01 03 7f",
		"02 01 7f 01 7f":             "01 02 7f",
		"02 01 7f 01 7e":             "02 01 7f 01 7e",
		"03 01 7f 01 7e 01 7f":       "03 01 7f 01 7e 01 7f",
		"03 01 7f 00 7e 01 7f":       "01 02 7f",
		"04 00 7f 02 7e 01 7e 01 7f": "02 03 7e 01 7f",
		"04 01 7e 01 7f 00 7f 00 7e": "02 01 7e 01 7f",
		"02 19 7e 19 7e":             "01 32 7e",
		"8200 8100 7f 8200 7f":       "01 03 7f",
	} {
		packs(t, oneFunc+"0a [ 01 [ "+from+" 0b ] ]", oneFunc+"0a [ 01 [ "+to+" 0b ] ]")
	}
	// Params are not told with the locals, though they are of one kind.
	packs(t, "01 [ 01 60 01 7f 00 ] 03 [ 01 00 ] 0a [ 01 [ 02 01 7f 01 7f 20 02 1a 0b ] ]", "01 [ 01 60 01 7f 00 ] 03 [ 01 00 ] 0a [ 01 [ 01 02 7f 20 02 1a 0b ] ]")
	// More than 127 parts, and a code of which the size gets shorter.
	packs(t, oneFunc+"0a [ 01 [ c801 "+many(200, "00 7f")+"0b ] ]", oneFunc+noCode)
}

func TestPackEmptySections(t *testing.T) {
	for _, which := range []string{"01", "03", "04", "05", "06", "07", "09", "0a", "0b"} {
		packs(t, which+" [ 00 ]", "")
		packs(t, which+" u[ u00 ]", "")
	}
	packs(t, "01 [ 00 ] 03 [ 00 ] 04 [ 00 ] 05 [ 00 ] 06 [ 00 ] 07 [ 00 ] 09 [ 00 ] 0a [ 00 ] 0b [ 00 ] 00 [ 04 'name ]", "")
	packs(t, "01 [ 00 ] "+table+"05 [ 00 ] "+globals+"0b [ 00 ]", table+globals)
	packs(t, noType+"03 [ 00 ] "+memory+"0a [ 00 ]", noType+memory)
}

func TestPackEmptyNames(t *testing.T) {
	const two = "01 [ 01 60 01 7f 00 ] 03 [ 02 00 00 ] 0a [ 02 [ 00 0b ] [ 00 0b ] ] "
	for from, to := range map[string]string{
		"":                                    "",
		"01 [ 00 ]":                           "",
		"02 [ 00 ]":                           "",
		"01 [ 00 ] 02 [ 00 ]":                 "",
		"01 [ 00 ] 02 [ 02 00 00 01 00 ]":     "",
		"01 [ 01 01 [ 'f ] ] 02 [ 00 ]":       "01 [ 01 01 [ 'f ] ]",
		"01 [ 01 01 [ 'f ] ] 02 [ 01 00 00 ]": "01 [ 01 01 [ 'f ] ]",
		"01 [ 00 ] 02 [ 02 00 00 01 01 00 [ 'x ] ]":           "02 [ 01 01 01 00 [ 'x ] ]",
		"02 [ 02 00 01 00 [ 'x ] 01 00 ]":                     "02 [ 01 00 01 00 [ 'x ] ]",
		"01 [ 01 00 [ 'f ] ] 02 [ 02 00 00 01 01 00 [ 'f ] ]": "01 [ 01 00 [ 'f ] ] 02 [ 01 01 01 00 [ 'f ] ]",
	} {
		if to != "" {
			to = "00 [ 04 'name " + to + " ]"
		}
		packs(t, two+"00 [ 04 'name "+from+" ]", two+to)
	}
}

// The bytes of example 1 are as short as they can be.
func TestPackExample(t *testing.T) {
	bytes := raw(t, "0061736d01000000"+"010601"+"60017f017f"+"03020100"+"0706010269640000"+"0a0601040020000b"+"0014046e616d65"+"01050100026964"+"0206010001000178")
	if got, errno, at := loom.Pack(bytes); got != bytes || errno != api.OK || at != 0 {
		t.Errorf("P5: Pack = %x, %d, %d", got, errno, at)
	}
	if got, errno, at := loom.Print(bytes); got != example || errno != api.OK || at != 0 {
		t.Errorf("P6: Print = %s, %d, %d", got, errno, at)
	}
}
