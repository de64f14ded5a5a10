package loom_test

import (
	"encoding/binary"
	"strings"
	"testing"

	"loom/api"
	"loom/loom"
)

// Of P3: a text that is marked is no module there; one that is not is one.
func TestHead(t *testing.T) {
	const whole = "\x00asm\x01\x00\x00\x00"
	for n := range len(whole) {
		if errno, at := loom.Check(whole[:n]); errno != api.ErrBytes || at != n {
			t.Errorf("P3: %d bytes of the head: %d, %d", n, errno, at)
		}
		other := whole[:n] + "x" + whole[n+1:]
		if errno, at := loom.Check(other); errno != api.ErrBytes || at != n {
			t.Errorf("P3: a head with another byte at %d: %d, %d", n, errno, at)
		}
	}
	ask(t, "", api.OK)
}

func TestLength(t *testing.T) {
	// Locals of which there are none are as many bytes as one likes.
	long := func(pairs int, more string) string {
		body := "\xa0\x13" + strings.Repeat("\x00\x7f", pairs) + more + "\x0b"
		section := "\x01" + u(len(body)) + body
		start, _ := build(t, head+oneFunc)
		return start + "\x0a" + u(len(section)) + section
	}
	full := long(2464, strings.Repeat("\x01", 45))
	if errno, at := loom.Check(full); len(full) != api.MaxBytes || errno != api.OK || at != 0 {
		t.Errorf("P3: %d bytes: %d, %d", len(full), errno, at)
	}
	over := long(2464, strings.Repeat("\x01", 46))
	if errno, at := loom.Check(over); len(over) != api.MaxBytes+1 || errno != api.ErrLong || at != 0 {
		t.Errorf("P3: %d bytes: %d, %d", len(over), errno, at)
	}
	if errno, at := loom.Check(strings.Repeat("x", api.MaxBytes+1)); errno != api.ErrLong || at != 0 {
		t.Errorf("P3: ErrLong is named ahead of ErrBytes: %d, %d", errno, at)
	}
}

func TestSections(t *testing.T) {
	ask(t, sample, api.OK)
	ask(t, "01 [ 00 ] 03 [ 00 ] 04 [ 00 ] 05 [ 00 ] 06 [ 00 ] 07 [ 00 ] 09 [ 00 ] 0a [ 00 ] 0b [ 00 ] 00 [ 04 'name ]", api.OK)
	askAll(t, api.ErrBytes,
		"! 02 [ 00 ]", "! 0c [ 00 ]", "! ff", "01 !", "01 80 !",
		"01 [ 00 ] ! 01 [ 00 ]", "03 [ 00 ] ! 01 [ 00 ]", "05 [ 00 ] ! 04 [ 00 ]", "0b [ 00 ] ! 0a [ 00 ]",
		"00 [ 04 'name ] ! 00 [ 04 'name ]", "00 [ 04 'name ] ! 0b [ 00 ]", "0b [ 00 ] ! 02",
		oneFunc+"!", oneFunc+"! 0b [ 00 ]", oneFunc+"! 00 [ 04 'name ]", oneFunc+table+"! 0b [ 00 ]")
}

func TestSizes(t *testing.T) {
	askAll(t, api.ErrBytes,
		// Shorter than what is in it.
		"01 [ ! ]", "01 00 ! 00", "01 03 01 60 00 ! 00", "01 01 80 ! 00", "05 02 01 00 ! 01",
		// Longer.
		"01 [ 00 ! 00 ]", "08 [ 00 ! 00 ]", noType+"05 [ 01 00 01 ! 01 ]",
		// Going on behind the end: first what stands there, then the end.
		"01 05 00 !", "01 05 00 ! 00", "01 ff ff ff ff 0f 00 !", "01 05 01 ! 61", "01 05 01 60 00 !",
		oneFunc+"0a 05 01 02 00 0b !", oneFunc+"0a 05 01 03 00 0b ! 0b",
		// A code likewise, at the end of its section too.
		oneFunc+"0a [ 01 03 00 0b ! ]", oneFunc+"0a [ 01 03 00 0b ! ] 0b [ 00 ]", oneFunc+"0a [ 01 04 00 0b ! 0b ]",
		oneFunc+"0a [ 01 03 00 ! 06 ]", oneFunc+"0a [ 01 [ 00 0b ! 0b ] ]", oneFunc+"0a [ 01 [ 00 01 ! ] ]",
		oneFunc+"0a [ 01 [ 00 ! ] 0b ]", oneFunc+"0a [ 01 [ ! ] 00 0b ]", oneFunc+"0a [ 01 [ 00 41 80 ! ] ]",
		oneFunc+"0a [ 01 [ 00 0b ] ! 00 ]",
		// A part of the names likewise.
		"00 [ 04 'name 01 [ ! ] ]", "00 [ 04 'name 01 [ 00 ! 00 ] ]", "00 [ 04 'name 01 02 00 ! ]", "00 [ 04 'name 01 02 00 ! ] 05",
		"00 [ 04 'name 01 05 ! 01 ]", "00 [ 04 'name 02 [ 00 ! 00 ] ]", "00 [ 04 'name 01 ! ]")
	askAll(t, api.OK, "01 81 80 80 80 00 00", "01 82 00 80 00")
}

func TestUnsigned(t *testing.T) {
	memories := func(least string) string { return "05 [ 01 00 " + least + " ]" }
	askAll(t, api.OK, memories("00"), memories("10"), memories("90 00"), memories("90 80 80 80 00"))
	ask(t, "05 [ 01 ! 00 ff ff ff ff 0f ]", api.ErrLimit)
	askAll(t, api.ErrBytes, memories("ff ff ff ff ! 1f"), memories("80 80 80 80 ! 10"), memories("80 80 80 80 ! 40"),
		memories("80 80 80 80 ! 80 00"), memories("ff ff ff ff ! 8f 00"), memories("80 80 80 80 !"))
}

func TestSigned(t *testing.T) {
	i32 := func(s string) string { return "06 [ 01 7f 00 41 " + s + " 0b ]" }
	i64 := func(s string) string { return "06 [ 01 7e 00 42 " + s + " 0b ]" }
	const nines = "80 80 80 80 80 80 80 80 80 "
	const full = "ff ff ff ff ff ff ff ff ff "
	askAll(t, api.OK, i32("00"), i32("7f"), i32("ff 7f"), i32("80 00"), i32("ff ff ff ff 07"), i32("80 80 80 80 78"), i32("ff ff ff ff 7f"), i32("80 80 80 80 00"),
		i64("00"), i64("40"), i64("ff ff ff ff 0f"), i64(nines+"7f"), i64(nines+"00"), i64(full+"00"), i64(full+"7f"))
	askAll(t, api.ErrBytes, i32("ff ff ff ff ! 0f"), i32("80 80 80 80 ! 08"), i32("80 80 80 80 ! 70"), i32("ff ff ff ff ! 77"), i32("ff ff ff ff ! 87 00"), i32("ff ff ff ff ! ff 7f"),
		i64(nines+"! 01"), i64(nines+"! 7e"), i64(full+"! 3f"), i64(full+"! 80 00"), i64(full+"! ff 00"))
}

func TestTypeBytes(t *testing.T) {
	askAll(t, api.OK, "01 [ 14 "+many(20, "60 00 00")+"]", "01 [ 01 60 08 "+many(8, "7f")+"04 "+many(4, "7e")+"]")
	askAll(t, api.ErrBytes, "01 [ ! 15 "+many(21, "60 00 00")+"]", "01 [ 01 ! 61 00 00 ]", "01 [ 01 60 ! 09 "+many(9, "7f")+"00 ]", "01 [ 01 60 00 ! 05 "+many(5, "7f")+"]",
		"01 [ 01 60 01 ! 7d 00 ]", "01 [ 01 60 00 01 ! 40 ]", "01 [ 02 60 00 00 ! ]")
}

func TestFunctionBytes(t *testing.T) {
	codes := func(n int) string { return many(n, "[ 00 0b ]") }
	askAll(t, api.OK, noType+"03 [ 14 "+many(20, "00")+"] 0a [ 14 "+codes(20)+"]", "03 [ 00 ]")
	askAll(t, api.ErrBytes, noType+"03 [ ! 15 "+many(21, "00")+"]", noType+"03 [ 02 00 ! ]",
		"0a [ ! 01 [ 00 0b ] ]", oneFunc+"0a [ ! 00 ]", oneFunc+"0a [ ! 02 "+codes(2)+"]", oneFunc+"0a [ ! 81 80 80 80 01 "+codes(1)+"]")
}

func TestLimitBytes(t *testing.T) {
	askAll(t, api.OK, "04 [ 01 70 00 05 ]", "04 [ 01 70 01 05 06 ]", "05 [ 01 00 01 ]", "05 [ 01 01 01 02 ]")
	askAll(t, api.ErrBytes, "04 [ ! 02 70 00 05 70 00 05 ]", "04 [ 01 ! 6f 00 05 ]", "04 [ 01 70 ! 02 05 ]", "04 [ 01 70 01 05 ! ]",
		"05 [ ! 02 00 01 00 01 ]", "05 [ 01 ! 02 01 ]", "05 [ 01 00 01 ! 01 ]")
}

func TestGlobalBytes(t *testing.T) {
	one := "7f 00 41 05 0b"
	askAll(t, api.OK, "06 [ 0a "+many(10, one)+"]", "06 [ 01 7e 01 42 05 0b ]")
	askAll(t, api.ErrBytes, "06 [ ! 0b "+many(11, one)+"]", "06 [ 01 ! 7d 00 41 05 0b ]", "06 [ 01 7f ! 02 41 05 0b ]", "06 [ 01 7f 00 ! 43 05 0b ]",
		"06 [ 01 7f 00 41 05 ! 0c ]", "06 [ 01 7f 00 41 05 ! 41 05 0b ]", "06 [ 01 7f 00 ! 23 00 0b ]")
}

func TestExportBytes(t *testing.T) {
	export := func(name string) string { return memory + "07 [ 01 " + name + " 02 00 ]" }
	long := strings.Repeat("x", 20)
	askAll(t, api.OK, export("[ ]"), export("[ '"+long+" ]"), export("[ 20 7e 27 5b 5d ]"), export("81 00 'a"))
	for b := range 256 {
		text := digits(string([]byte{byte(b)}))
		if b < 32 || b > 126 || b == '"' || b == '\\' {
			ask(t, memory+"07 [ 01 ! [ 61 "+text+"] 02 00 ]", api.ErrBytes)
		} else {
			ask(t, memory+"07 [ 01 [ 61 "+text+"] 02 00 ]", api.OK)
		}
	}
	askAll(t, api.ErrBytes, memory+"07 [ 01 ! [ '"+long+"x ] 02 00 ]", memory+"07 [ 01 05 'a 02 00 ! ]", memory+"07 [ 01 [ 'a ] ! 04 00 ]", memory+"07 [ 01 [ 'a ] 02 ! ]", memory+"07 [ 01 ! ]")
	most := ""
	for i := range 21 {
		most += "[ '" + string(rune('a'+i)) + " ] 02 00 "
		if i == 19 {
			ask(t, memory+"07 [ 14 "+most+"]", api.OK)
		}
	}
	ask(t, memory+"07 [ ! 15 "+most+"]", api.ErrBytes)
}

func TestElementAndDataBytes(t *testing.T) {
	element := "00 41 00 0b "
	askAll(t, api.OK, oneFunc+table+"09 [ 05 "+many(5, element+"00")+"] "+noCode, oneFunc+table+"09 [ 01 "+element+"14 "+many(20, "00")+"] "+noCode)
	askAll(t, api.ErrBytes, oneFunc+table+"09 [ ! 06 "+many(6, element+"00")+"] ", oneFunc+table+"09 [ 01 "+element+"! 15 "+many(21, "00")+"] ",
		table+"09 [ 01 ! 01 41 00 0b 00 ]", table+"09 [ 01 00 ! 0b 00 ]", table+"09 [ 01 00 41 00 0b 01 ! ]")
	askAll(t, api.OK, memory+"0b [ 0a "+many(10, element+"00")+"] ", memory+"0b [ 01 "+element+"64 "+many(100, "ff")+"] ")
	askAll(t, api.ErrBytes, memory+"0b [ ! 0b "+many(11, element+"00")+"] ", memory+"0b [ 01 "+element+"! 65 "+many(101, "ff")+"] ",
		memory+"0b [ 01 ! 02 41 00 0b 00 ]", memory+"0b [ 01 00 41 00 ! 00 00 ]", memory+"0b [ 01 "+element+"05 'abc ! ]")
	askAll(t, api.ErrBytes, "08 [ ! ]", "08 [ 80 ! ]", "08 [ 00 ! 00 ]")
}

func TestLocalBytes(t *testing.T) {
	code := func(s string) string { return oneFunc + "0a [ 01 [ " + s + " 0b ] ]" }
	askAll(t, api.OK, code("01 32 7f"), code("02 19 7f 19 7e"), code("03 00 7f 32 7e 00 7f"), code("02 00 7f 00 7f"))
	askAll(t, api.ErrBytes, code("01 ! 33 7f"), code("02 19 7f ! 1a 7e"), code("02 32 7f ! 01 7e"), code("01 ! ff ff ff ff 0f 7f"), code("01 01 ! 40"), code("02 01 7f 01 ! 02"), code("ff ff ff ff 0f 00 !"))
}

func TestInstructionBytes(t *testing.T) {
	code := func(s string) string { return oneFunc + table + memory + "0a [ 01 [ 00 " + s + " ] ]" }
	askAll(t, api.OK, code("02 40 0b 0b"), code("02 80 80 80 80 00 0b 0b"), code("03 00 0b 0b"), code("41 00 04 40 05 0b 0b"), code("0c 80 80 80 80 00 0b"),
		code("41 00 0e 14 "+many(21, "00")+"0b"), code("41 00 28 82 00 ff ff ff ff 0f 1a 0b"), code("3f 00 1a 0b"), code("41 00 11 00 00 0b"), code("41 80 80 80 80 78 42 ff 00 1a 1a 0b"))
	askAll(t, api.ErrBytes,
		// What a block takes and gives.
		code("02 ! 7d 0b 0b"), code("02 ! 41 0b 0b"), code("02 ! c0 7f 0b 0b"), code("02 ! ff 7f 0b 0b"), code("02 ! ff ff ff ff 7f 0b 0b"), code("02 ! 80 80 80 80 70 0b 0b"),
		code("02 ff ff ff ff ! 2f 0b 0b"), code("02 ff ff ff ff ! 10 0b 0b"), code("02 ff ff ff ff ! 6f 0b 0b"), code("02 80 80 80 80 ! 80 00 0b 0b"), code("02 !"), code("04 80 !"),
		// Nesting.
		code("! 05 0b"), code("02 40 ! 05 0b 0b"), code("03 40 ! 05 0b 0b"), code("41 00 04 40 05 ! 05 0b 0b"), code("41 00 04 40 02 40 ! 05 0b 0b 0b"), code("02 40 0b !"), code("0b ! 0b"), code("41 00 04 40 05 0b !"),
		// Numbers behind a word.
		code("0e ! 15 "+many(22, "00")+"0b"), code("0e 01 00 !"), code("0c ff ff ff ff ! 10 0b"), code("41 00 11 00 ! 01 0b"), code("3f ! 01 1a 0b"), code("41 00 40 ! 80 00 0b"),
		code("28 00 !"), code("28 80 80 80 80 ! 80 00 00 0b"), code("28 00 80 80 80 80 ! 80 00 0b"), code("41 ff ff ff ff ! 0f 0b"), code("42 !"), code("20 !"))
}

// Which bytes are instructions: all others cannot stand there.
func TestWordBytes(t *testing.T) {
	known, _ := build(t, "00 01 02 03 04 0b 0c 0d 0e 0f 10 11 1a 1b 20 21 22 23 24 28 29 2c 2d 36 37 3a 3f 40 41 42 a7 ac ad")
	for b := 0x45; b <= 0x8a; b++ {
		if b <= 0x5a || b >= 0x67 {
			known += string([]byte{byte(b)})
		}
	}
	start, _ := build(t, head+oneFunc+"0a 0b 01 09 00")
	for b := range 256 {
		// An else (05) is an instruction, but cannot stand here.
		errno, at := loom.Check(start + string([]byte{byte(b)}) + strings.Repeat("\x0b", 7))
		refused := errno == api.ErrBytes && at == len(start)
		if refused == (strings.IndexByte(known, byte(b)) >= 0) {
			t.Errorf("P3: the byte %02x as an instruction: %d, %d", b, errno, at)
		}
	}
}

func TestNesting(t *testing.T) {
	nested := func(n int, mark string) string {
		body := "00 " + many(min(n, 50), "02 40") + mark + many(n-min(n, 50), "02 40") + many(n+1, "0b")
		return oneFunc + "0a [ 01 [ " + body + "] ]"
	}
	askAll(t, api.OK, nested(49, ""), nested(50, ""))
	ask(t, nested(51, "! "), api.ErrBytes)
	// One behind the other is not in one another.
	ask(t, oneFunc+"0a [ 01 [ 00 "+many(60, "02 40 0b")+"0b ] ]", api.OK)
}

func TestNameBytes(t *testing.T) {
	// Two functions, of which the first has two params and three locals.
	two := "01 [ 02 60 02 7f 7e 00 60 00 00 ] 03 [ 02 00 01 ] 0a [ 02 [ 01 03 7f 0b ] [ 00 0b ] ] "
	funcs := func(s string) string { return two + "00 [ 04 'name 01 [ " + s + " ] ]" }
	locals := func(s string) string { return two + "00 [ 04 'name 02 [ " + s + " ] ]" }
	long := strings.Repeat("x", 20)
	askAll(t, api.OK, "00 [ 04 'name 01 [ 00 ] 02 [ 00 ] ]", funcs("02 00 [ 'a ] 01 [ '"+long+" ]"), funcs("01 81 00 [ 'aZ09_. ]"),
		locals("02 00 05 00 [ 'a ] 01 [ 'b ] 02 [ 'c ] 03 [ 'd ] 04 [ 'e ] 01 00"), locals("01 01 00"),
		two+"00 [ 04 'name 01 [ 01 00 [ 'a ] ] 02 [ 01 00 01 00 [ 'a ] ] ]")
	askAll(t, api.ErrBytes, "00 [ ! ]", "00 [ ! 84 00 'name ]", "00 [ 04 'na ! 'n ]", "00 [ 04 'nam ! ]", "00 [ 04 'name ! 00 [ 00 ] ]", "00 [ 04 'name ! 03 [ 00 ] ]",
		"00 [ 04 'name 02 [ 00 ] ! 01 [ 00 ] ]", "00 [ 04 'name 01 [ 00 ] ! 01 [ 00 ] ]", "00 [ 04 'name 02 [ 00 ] ! 02 [ 00 ] ]", "00 [ 04 'name 01 [ 00 ] 02 [ 00 ] ! 03 ]",
		funcs("! 03 00 [ 'a ] 01 [ 'b ] 02 [ 'c ]"), funcs("01 ! 02 [ 'a ]"), funcs("02 01 [ 'a ] ! 00 [ 'b ]"), funcs("02 00 [ 'a ] ! 00 [ 'b ]"), funcs("01 ! ff ff ff ff 0f [ 'a ]"),
		funcs("01 00 ! [ ]"), funcs("01 00 ! [ '"+long+"x ]"), funcs("01 00 ! [ 'a- ]"), funcs("01 00 ! [ 'a$ ]"), funcs("01 00 ! [ 61 20 ]"), funcs("01 00 ! [ c3 a9 ]"), funcs("02 00 [ 'a ] 01 ! [ 'a ]"), funcs("01 00 03 2d !"),
		locals("! 03 00 00 01 00 02 00"), locals("01 ! 02 00"), locals("02 01 00 ! 00 00"), locals("02 00 00 ! 00 00"),
		locals("01 00 ! 06 00 [ 'a ]"), locals("01 00 01 ! 05 [ 'a ]"), locals("01 00 02 03 [ 'a ] ! 02 [ 'b ]"), locals("01 00 02 03 [ 'a ] 04 ! [ 'a ]"), locals("01 01 ! 01 00 [ 'a ]"), locals("01 00 01 00 ! [ 'a= ]"))
	const letters = "abcdefghijklmnopqrstuvwxyzABCDEFGHIJKLMNOPQRSTUVWXYZ0123456789_."
	for b := range 256 {
		text := "[ 61 " + digits(string([]byte{byte(b)})) + "]"
		if strings.IndexByte(letters, byte(b)) >= 0 {
			ask(t, funcs("01 00 "+text), api.OK)
		} else {
			ask(t, funcs("01 00 ! "+text), api.ErrBytes)
		}
	}
	// A function whose type is not there has no params, but locals.
	untyped := "03 [ 01 00 ] 0a [ 01 [ 01 02 7f 0b ] ] 00 [ 04 'name 02 [ 01 00 "
	ask(t, untyped+"! 03 00 [ 'a ] 01 [ 'b ] 02 [ 'c ] ] ]", api.ErrBytes)
	ask(t, "03 [ 01 ! 00 ] 0a [ 01 [ 01 02 7f 0b ] ] 00 [ 04 'name 02 [ 01 00 02 00 [ 'a ] 01 [ 'b ] ] ]", api.ErrIndex)
}

// What is cut off ends too early: the place is that behind the last byte. Between sections it is a module, if there are no functions without codes.
func TestCutOff(t *testing.T) {
	whole, _ := build(t, head+sample)
	ends := sectionEnds(whole)
	for n := range len(whole) {
		want, to := api.ErrBytes, n
		switch which, ok := ends[n]; {
		case ok && (which == 1 || which == 10 || which == 11), n == 8:
			want, to = api.OK, 0
		}
		if errno, at := loom.Check(whole[:n]); errno != want || at != to {
			t.Errorf("P3: %d of %d bytes: %d, %d, want %d, %d", n, len(whole), errno, at, want, to)
		}
	}
}

// sectionEnds tells of each place behind a section which one it is.
func sectionEnds(bytes string) map[int]byte {
	ends := map[int]byte{}
	for at := 8; at < len(bytes); {
		which := bytes[at]
		size, n := binary.Uvarint([]byte(bytes[at+1:]))
		at += 1 + n + int(size)
		ends[at] = which
	}
	return ends
}
