package loom_test

import (
	"strconv"
	"strings"
	"testing"

	"loom/api"
	"loom/loom"
)

// example is the document's example 1, printed.
const example = `(module
  (type (func (param i32) (result i32)))
  (func $id (type 0) (param $x i32) (result i32)
    local.get 0
  )
  (export "id" (func 0))
)`

// prints asks whether a module is printed so: each line stands two blanks in.
func prints(t *testing.T, text string, lines ...string) {
	t.Helper()
	bytes, _ := build(t, head+text)
	want := "(module\n"
	for _, line := range lines {
		want += "  " + line + "\n"
	}
	want += ")"
	if got, errno, at := loom.Print(bytes); got != want || errno != api.OK || at != 0 {
		t.Errorf("P6: Print(%s) = %s, %d, %d, want %s", text, got, errno, at, want)
	}
	comesBack(t, bytes)
}

func TestPrintSample(t *testing.T) {
	bytes, _ := build(t, head+sample)
	want := `(module
  (type (func (param i32) (result i32)))
  (type (func))
  (type (func (param i64 i32) (result i64)))
  (func $id (type 0) (param $x i32) (result i32) (local i64)
    local.get 0
    i32.const 10
    i32.lt_s
    if (result i32)
      local.get 0
    else
      local.get 0
      i32.const 1
      i32.sub
      call 0
    end
  )
  (func (type 1)
    block
      i32.const 0
      br_table 0 1
    end
    i32.const 0
    i32.load offset=4
    global.get 0
    i32.add
    global.set 0
    i32.const 0
    call_indirect (type 1)
  )
  (func $f.2_A (type 2) (param $a i64) (param i32) (result i64) (local i32 i32) (local $b i64)
    local.get 0
    local.get 1
    i64.extend_i32_s
    i64.add
    i64.const -128
    local.get 1
    select
  )
  (table 2 5)
  (memory 1 16)
  (global (mut i32) (i32.const 5))
  (global i64 (i64.const 5))
  (export "id" (func 0))
  (export "table" (table 0))
  (export "" (memory 0))
  (export "g" (global 1))
  (start 1)
  (elem (i32.const 0) 0 1)
  (elem (i32.const -1))
  (data (i32.const 8) "hello")
  (data (i32.const 0) "")
)`
	if got, errno, at := loom.Print(bytes); got != want || errno != api.OK || at != 0 {
		t.Errorf("P6: Print = %s, %d, %d, want %s", got, errno, at, want)
	}
}

func TestPrintEmpty(t *testing.T) {
	prints(t, "")
	prints(t, "01 [ 00 ] 03 [ 00 ] 07 [ 00 ] 0a [ 00 ] 00 [ 04 'name 01 [ 00 ] ]")
}

func TestPrintTypes(t *testing.T) {
	prints(t, "01 [ 04 60 00 00 60 01 7e 00 60 00 02 7f 7e 60 08 7f 7f 7e 7f 7e 7e 7f 7f 04 7e 7e 7f 7e ]",
		"(type (func))", "(type (func (param i64)))", "(type (func (result i32 i64)))",
		"(type (func (param i32 i32 i64 i32 i64 i64 i32 i32) (result i64 i64 i32 i64)))")
}

func TestPrintLimits(t *testing.T) {
	prints(t, "04 [ 01 70 00 00 ] 05 [ 01 01 00 00 ]", "(table 0)", "(memory 0 0)")
	prints(t, "04 [ 01 70 01 05 14 ] 05 [ 01 00 10 ]", "(table 5 20)", "(memory 16)")
}

func TestPrintGlobals(t *testing.T) {
	prints(t, "06 [ 05 7f 00 41 00 0b 7f 01 41 ff ff ff ff 07 0b 7f 01 41 80 80 80 80 78 0b 7e 00 42 ff ff ff ff ff ff ff ff ff 00 0b 7e 01 42 80 80 80 80 80 80 80 80 80 7f 0b ]",
		"(global i32 (i32.const 0))", "(global (mut i32) (i32.const 2147483647))", "(global (mut i32) (i32.const -2147483648))",
		"(global i64 (i64.const 9223372036854775807))", "(global (mut i64) (i64.const -9223372036854775808))")
}

func TestPrintExports(t *testing.T) {
	prints(t, memory+"07 [ 03 [ ] 02 00 07 61 20 62 28 3b 7e 24 02 00 14 "+many(20, "'x")+"02 00 ]",
		"(memory 1)", `(export "" (memory 0))`, `(export "a b(;~$" (memory 0))`, `(export "xxxxxxxxxxxxxxxxxxxx" (memory 0))`)
}

// Each byte of data is told: those from 32 to 126 as they are, but for two, and all others by two digits.
func TestPrintData(t *testing.T) {
	section := "0b [ 03 "
	lines := []string{"(memory 1)"}
	for part, end := range []int{100, 200, 256} {
		line := `(data (i32.const -1) "`
		section += "00 41 7f 0b " + digits(u(end-part*100))
		for b := part * 100; b < end; b++ {
			section += digits(string([]byte{byte(b)}))
			switch {
			case b == '"':
				line += `\22`
			case b == '\\':
				line += `\5c`
			case b < 16:
				line += `\0` + strconv.FormatInt(int64(b), 16)
			case b < 32 || b > 126:
				line += `\` + strconv.FormatInt(int64(b), 16)
			default:
				line += string(rune(b))
			}
		}
		lines = append(lines, line+`")`)
	}
	prints(t, memory+section+"]", lines...)
}

func TestPrintNames(t *testing.T) {
	const two = "01 [ 02 60 03 7f 7f 7e 01 7f 60 00 00 ] 03 [ 02 00 01 ] 0a [ 02 [ 02 02 7f 02 7e 41 00 0b ] [ 01 03 7e 0b ] ] "
	const types = "(type (func (param i32 i32 i64) (result i32)))"
	for _, c := range []struct{ names, first, second string }{
		{"", "(func (type 0) (param i32 i32 i64) (result i32) (local i32 i32 i64 i64)", "(func (type 1) (local i64 i64 i64)"},
		{"01 [ 01 01 [ 'f ] ]", "(func (type 0) (param i32 i32 i64) (result i32) (local i32 i32 i64 i64)", "(func $f (type 1) (local i64 i64 i64)"},
		{"01 [ 02 00 [ 'a ] 01 [ 'b ] ] 02 [ 01 00 07 00 [ 'a ] 01 [ 'b ] 02 [ 'c ] 03 [ 'd ] 04 [ 'e ] 05 [ 'f ] 06 [ 'g ] ]",
			"(func $a (type 0) (param $a i32) (param $b i32) (param $c i64) (result i32) (local $d i32) (local $e i32) (local $f i64) (local $g i64)", "(func $b (type 1) (local i64 i64 i64)"},
		{"02 [ 02 00 02 01 [ 'x ] 05 [ '0 ] 01 01 00 [ '. ] ]",
			"(func (type 0) (param i32) (param $x i32) (param i64) (result i32) (local i32 i32) (local $0 i64) (local i64)", "(func (type 1) (local $. i64) (local i64 i64)"},
		{"02 [ 02 00 02 02 [ 'x ] 03 [ 'y ] 01 01 02 [ '_ ] ]",
			"(func (type 0) (param i32 i32) (param $x i64) (result i32) (local $y i32) (local i32 i64 i64)", "(func (type 1) (local i64 i64) (local $_ i64)"},
		{"02 [ 01 00 02 00 [ 'x ] 06 [ 'y ] ]",
			"(func (type 0) (param $x i32) (param i32 i64) (result i32) (local i32 i32 i64) (local $y i64)", "(func (type 1) (local i64 i64 i64)"},
	} {
		prints(t, two+"00 [ 04 'name "+c.names+" ]", types, "(type (func))", c.first, "  i32.const 0", ")", c.second, ")")
	}
}

// printsCode asks how the instructions of a code are printed, behind those that the module has at first.
func printsCode(t *testing.T, body string, lines ...string) {
	t.Helper()
	all := []string{"(type (func))", "(type (func (param i32) (result i64)))", "(func (type 0) (local i32 i64)"}
	for _, line := range lines {
		all = append(all, "  "+line)
	}
	all = append(all, ")", "(table 5)", "(memory 1)", "(global (mut i32) (i32.const 5))", "(global i64 (i64.const 5))")
	prints(t, code([]string{">", "i>l"}, body+" 0b"), all...)
}

func TestPrintNoInstruction(t *testing.T) { printsCode(t, "") }

func TestPrintBlocks(t *testing.T) {
	printsCode(t, "02 40 0b", "block", "end")
	printsCode(t, "02 00 0b 03 00 0b 41 00 04 00 0b", "block (type 0)", "end", "loop (type 0)", "end", "i32.const 0", "if (type 0)", "end")
	printsCode(t, "02 7f 00 0b 1a 03 7e 00 0b 1a", "block (result i32)", "  unreachable", "end", "drop", "loop (result i64)", "  unreachable", "end", "drop")
	printsCode(t, "00 04 01 ac 05 ad 0b 1a", "unreachable", "if (type 1)", "  i64.extend_i32_s", "else", "  i64.extend_i32_u", "end", "drop")
	printsCode(t, "41 00 04 40 05 0b 01", "i32.const 0", "if", "else", "end", "nop")
	printsCode(t, "41 00 04 40 41 00 04 40 01 05 01 0b 05 02 40 01 0b 0b 0f",
		"i32.const 0", "if", "  i32.const 0", "  if", "    nop", "  else", "    nop", "  end", "else", "  block", "    nop", "  end", "end", "return")
}

// As deep as blocks may stand in one another, each stands two blanks farther in.
func TestPrintDeep(t *testing.T) {
	var lines []string
	for i := range api.MaxNest {
		lines = append(lines, strings.Repeat("  ", i)+"loop")
	}
	lines = append(lines, strings.Repeat("  ", api.MaxNest)+"nop")
	for i := range api.MaxNest {
		lines = append(lines, strings.Repeat("  ", api.MaxNest-1-i)+"end")
	}
	printsCode(t, many(50, "03 40")+"01 "+many(50, "0b"), lines...)
}

// What stands behind each word.
func TestPrintBehind(t *testing.T) {
	printsCode(t, "02 40 02 40 0c 02 0b 0b", "block", "  block", "    br 2", "  end", "end")
	printsCode(t, "00 0d 00 0e 00 00", "unreachable", "br_if 0", "br_table 0")
	printsCode(t, "02 40 00 0e 03 01 00 01 00 0b", "block", "  unreachable", "  br_table 1 0 1 0", "end")
	printsCode(t, "10 00 00 11 01 00 1a", "call 0", "unreachable", "call_indirect (type 1)", "drop")
	printsCode(t, "20 00 21 00 20 01 22 01 1a 23 01 1a 23 00 24 00", "local.get 0", "local.set 0", "local.get 1", "local.tee 1", "drop", "global.get 1", "drop", "global.get 0", "global.set 0")
	printsCode(t, "3f 00 40 00 1a", "memory.size", "memory.grow", "drop")
	printsCode(t, "41 7f 1a 41 80 80 80 80 78 1a 41 ff ff ff ff 07 1a 42 7f 1a 42 80 80 80 80 80 80 80 80 80 7f 1a 42 ff ff ff ff ff ff ff ff ff 00 1a",
		"i32.const -1", "drop", "i32.const -2147483648", "drop", "i32.const 2147483647", "drop", "i64.const -1", "drop", "i64.const -9223372036854775808", "drop", "i64.const 9223372036854775807", "drop")
}

// An align is told if it is not the one that there is without, an offset if it is not 0.
func TestPrintAlign(t *testing.T) {
	for word, want := range map[string]struct {
		name  string
		usual int
	}{
		"28": {"i32.load", 2}, "29": {"i64.load", 3}, "2c": {"i32.load8_s", 0}, "2d": {"i32.load8_u", 0}, "36": {"i32.store", 2}, "37": {"i64.store", 3}, "3a": {"i32.store8", 0},
	} {
		for align := range want.usual + 1 {
			name := want.name
			offset := name + " offset=1"
			most := name + " offset=4294967295"
			if align != want.usual {
				told := " align=" + strconv.Itoa(1<<align)
				name, offset, most = name+told, offset+told, most+told
			}
			start := "00 " + word + digits(u(align))
			printsCode(t, start+"00 00", "unreachable", name, "unreachable")
			printsCode(t, start+"01 00", "unreachable", offset, "unreachable")
			printsCode(t, start+"ffffffff0f 00", "unreachable", most, "unreachable")
		}
	}
}

// Each word behind which nothing stands.
func TestPrintWords(t *testing.T) {
	of := func(first int, prefix, names string) {
		for i, name := range strings.Fields(names) {
			word := digits(string([]byte{byte(first + i)}))
			printsCode(t, "00"+word+"00", "unreachable", prefix+name, "unreachable")
		}
	}
	const compares = "eqz eq ne lt_s lt_u gt_s gt_u le_s le_u ge_s ge_u"
	const computes = "clz ctz popcnt add sub mul div_s div_u rem_s rem_u and or xor shl shr_s shr_u rotl rotr"
	of(0x00, "", "unreachable nop")
	of(0x0f, "", "return")
	of(0x1a, "", "drop select")
	of(0x45, "i32.", compares)
	of(0x50, "i64.", compares)
	of(0x67, "i32.", computes)
	of(0x79, "i64.", computes)
	of(0xa7, "i32.", "wrap_i64")
	of(0xac, "i64.", "extend_i32_s extend_i32_u")
}

// Numbers that are longer than they need to be, and locals told apart, are printed like others.
func TestPrintOfLong(t *testing.T) {
	prints(t, "01 u[ u01 60 u00 u00 ] 03 u[ u01 u00 ] 05 [ u01 01 u00 u02 ] 0a u[ u01 u[ u04 u01 7f u00 7e u01 7f u01 7e 20 u01 28 u00 u02 21 u00 02 s00 0b 41 s7f 1a 0b ] ] 00 u[ 04 'name 01 u[ u00 ] 02 u[ u01 u00 u01 u01 u[ 'x ] ] ]",
		"(type (func))", "(func (type 0) (local i32) (local $x i32) (local i64)", "  local.get 1", "  i32.load offset=2 align=1", "  local.set 0", "  block (type 0)", "  end", "  i32.const -1", "  drop", ")", "(memory 0 2)")
}
