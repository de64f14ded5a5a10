package loom_test

import (
	"strconv"
	"strings"
	"testing"

	"loom/api"
)

// body asks whether instructions are assembled to these bytes, in a function of the first of two types.
func body(t *testing.T, text, bytes string) {
	t.Helper()
	assembles(t, "(module (type (func)) (type (func (param i32) (result i64))) (func (type 0) "+text+"))", "01 [ 02 60 00 00 60 01 7f 01 7e ] 03 [ 01 00 ] 0a [ 01 [ 00 "+bytes+" 0b ] ]")
}

// wrongBody asks whether instructions are refused at the place that is marked.
func wrongBody(t *testing.T, texts ...string) {
	t.Helper()
	for _, text := range texts {
		refused(t, api.ErrText, in("(func "+text+")"))
	}
}

// Each word behind which nothing stands.
func TestAssembleWords(t *testing.T) {
	of := func(first int, prefix, names string) {
		t.Helper()
		for i, name := range strings.Fields(names) {
			word := digits(string([]byte{byte(first + i)}))
			body(t, prefix+name, word)
			body(t, "("+prefix+name+")", word)
			wrongBody(t, prefix+name+" !0", prefix+name+" !$a", prefix+name+" !offset=0", "("+prefix+name+" !0)", "!"+prefix+name+"_", "(!"+prefix+name+"s)")
		}
	}
	const compares = "eqz eq ne lt_s lt_u gt_s gt_u le_s le_u ge_s ge_u"
	const computes = "clz ctz popcnt add sub mul div_s div_u rem_s rem_u and or xor shl shr_s shr_u rotl rotr"
	of(0x00, "", "unreachable nop")
	of(0x0f, "", "return")
	of(0x1a, "", "drop select")
	of(0x45, "i32.", compares)
	of(0x50, "i64.", compares)
	of(0x67, "i32.", computes)
	of(0x79, "i64.", computes)
	of(0xa7, "i32.", "wrap_i64")
	of(0xac, "i64.", "extend_i32_s extend_i32_u")
	body(t, "memory.size memory.grow (memory.size) (memory.grow)", "3f 00 40 00 3f 00 40 00")
	body(t, "", "")
	wrongBody(t, "memory.size !0", "(memory.grow !0)")
	for _, wrong := range []string{"x", "NOP", "i32", "i32.", "i64.load8_s", "i64.store8", "i64.wrap_i64", "0", "-1", "$a", `"nop"`, "then", "else", "end", "type", "param", "module"} {
		wrongBody(t, "nop !"+wrong, "nop (!"+wrong+")", "(loop nop !"+wrong+")", "(nop (!"+wrong+"))", "(nop !"+wrong+")", "block nop (!"+wrong+") end")
	}
	// Once an instruction stands there, a function's head is over; of it, each part has its place.
	wrongBody(t, "(!)", "(!(nop))", "nop (!type 0)", "nop (!param i32)", "nop (!result i32)", "nop (!local i32)", "(local i32) (!type 0)", "(local i32) (!param i32)", "(local i32) (!result i32)", "(result i32) (!type 0)", "(result i32) (!param i32)", "(param i32) (!type 0)", "(type 0) (!type 0)", "(type!)", "(type 0 !0)", "(type !(func))", `(type !"0")`)
}

// What stands behind a word: labels, indices, offsets.
func TestAssembleBehind(t *testing.T) {
	body(t, "br 0 br_if 300 (br 1) (br_if 2)", "0c 00 0d ac 02 0c 01 0d 02")
	body(t, "br_table 5 br_table 1 2 br_table 3 0 128 nop (br_table 7)", "0e 00 05 0e 01 01 02 0e 02 03 00 80 01 01 0e 00 07")
	body(t, "br_table"+strings.Repeat(" 1", 20)+" 2", "0e 14 "+many(20, "01")+"02")
	body(t, "call 0 call 300 (call 1)", "10 00 10 ac 02 10 01")
	body(t, "local.get 0 local.set 1 local.tee 2 global.get 3 global.set 4", "20 00 21 01 22 02 23 03 24 04")
	for _, word := range []string{"br", "br_if", "br_table", "call", "local.get", "local.set", "local.tee", "global.get", "global.set", "i32.const", "i64.const"} {
		wrongBody(t, word+"!", word+" !nop", word+" !(nop)", "("+word+"!)", word+` !"0"`, word+" !x")
		if word != "br_table" {
			wrongBody(t, word+" 0 !0", "("+word+" 0 !0)")
		}
	}
	wrongBody(t, "br_table"+strings.Repeat(" 1", 21)+" !2", "br_table"+strings.Repeat(" 1", 21)+" !$a", "(br_table"+strings.Repeat(" 1", 21)+" !2)", "br_table 1 !x", "block $a br_table"+strings.Repeat(" $a", 21)+" !$a end", `br_table 0 !"0"`, "local.get 0 !offset=1")
}

func TestAssembleLoads(t *testing.T) {
	for _, c := range []struct {
		name, word string
		usual      string
	}{
		{"i32.load", "28", "02"}, {"i64.load", "29", "03"}, {"i32.load8_s", "2c", "00"}, {"i32.load8_u", "2d", "00"}, {"i32.store", "36", "02"}, {"i64.store", "37", "03"}, {"i32.store8", "3a", "00"},
	} {
		body(t, c.name+" ("+c.name+") nop", c.word+c.usual+"00"+c.word+c.usual+"00 01")
		body(t, c.name+" offset=0 "+c.name+" offset=300 ("+c.name+" offset=4294967295)", c.word+c.usual+"00"+c.word+c.usual+"ac02"+c.word+c.usual+"ffffffff0f")
		for align := range 32 {
			told := " align=" + strconv.FormatUint(1<<align, 10)
			body(t, c.name+told+" ("+c.name+" offset=5"+told+")", c.word+digits(u(align))+"00"+c.word+digits(u(align))+"05")
		}
		for _, wrong := range []string{"align=0", "align=3", "align=6", "align=12", "align=4294967295", "align=4294967296", "align=8589934592", "align=", "align", "align=01", "align=-1", "align=4x", "offset", "offset=", "offset=-1", "offset=00", "offset=4294967296", "offset=1offset=2", "offset==1", "Offset=1", "offset.1", "alignoffset=1", "0", "4"} {
			wrongBody(t, c.name+" !"+wrong, "("+c.name+" !"+wrong+")", c.name+" offset=1 !"+strings.Replace(wrong, "offset=", "offset=x", 1))
		}
		wrongBody(t, c.name+" align=1 !offset=1", c.name+" offset=1 !offset=1", c.name+" align=1 !align=1", c.name+" offset=1 align=1 !align=1", c.name+` !"offset=1"`, c.name+" offset=1 !=1")
	}
}

func TestAssembleBlocks(t *testing.T) {
	body(t, "block end loop end if end", "02 40 0b 03 40 0b 04 40 0b")
	body(t, "block nop end loop nop nop end if nop else drop end", "02 40 01 0b 03 40 01 01 0b 04 40 01 05 1a 0b")
	body(t, "if else end if if else end else if end end", "04 40 05 0b 04 40 04 40 05 0b 05 04 40 0b 0b")
	body(t, "block $a loop $b if $c else end end end", "02 40 03 40 04 40 05 0b 0b 0b")
	body(t, "block (result i32) end loop (result i64) end if $x (result i32) else end", "02 7f 0b 03 7e 0b 04 7f 05 0b")
	body(t, "block (param) end block (result) (result) end loop (param) (param) (result) (result i64) (result) end", "02 40 0b 02 40 0b 03 7e 0b")
	body(t, "block (type 0) end loop (type 1) end if (type 64) end block (type 4294967295) end", "02 00 0b 03 01 0b 04 c0 00 0b 02 ff ff ff ff 0f 0b")
	body(t, "block (type 0) (param) (result) end loop (type 1) (param i32) (param) (result i64) end block $b (param i32) (result i64) end", "02 00 0b 03 01 0b 02 01 0b")
	wrongBody(t, "block!", "loop nop!", "if!", "if else!", "!end", "!else", "block end !end", "block end !else", "block !else end", "loop !else end", "if else !else end",
		"block end !$a", "block $a !$b end", "if else !$a end", "block (type 0) (!type 0) end", "block (result i32) (!type 0) end", "block (result i32) (!param i32) end", "block (!local i32) end", "block nop (!result i32) end", "block (nop) (!param i32) end",
		"if (!then) end", "if !then end", "if nop (!else) end", "block (type!) end", "block (type !x) end", "block (type 0 !1) end", "block (param !x) end", "loop (result i32 !$x) end", "loop (block !end) end", "if (block !else) end", "(block block!)", "(if (then if !) end)")
}

// Blocks may stand in one another just so deep, folded or not.
func TestAssembleNest(t *testing.T) {
	body(t, many(50, "block")+many(50, "end"), many(50, "02 40")+many(50, "0b"))
	body(t, strings.Repeat("(loop ", 50)+strings.Repeat(")", 50), many(50, "03 40")+many(50, "0b"))
	body(t, strings.Repeat("(if (then ", 50)+strings.Repeat("))", 50), many(50, "04 40")+many(50, "0b"))
	body(t, many(50, "block")+many(50, "end")+many(50, "loop")+many(50, "end"), many(50, "02 40")+many(50, "0b")+many(50, "03 40")+many(50, "0b"))
	for _, deep := range []struct{ ahead, behind string }{
		{many(50, "block"), many(50, "end")}, {many(50, "loop"), many(50, "end")}, {many(50, "if else"), many(50, "end")}, {strings.Repeat("(block ", 50), strings.Repeat(")", 50)}, {strings.Repeat("(if (nop) (then) (else ", 50), strings.Repeat("))", 50)}, {strings.Repeat("(loop if ", 25), strings.Repeat(" end)", 25)},
	} {
		taken(t, in("(func "+deep.ahead+deep.behind+")"), in("(func "+deep.ahead+"nop (nop (nop)) "+deep.behind+" block end)"))
		wrongBody(t, deep.ahead+"!block end "+deep.behind, deep.ahead+"!loop", deep.ahead+"!if $a (x)", deep.ahead+"!(block) "+deep.behind, deep.ahead+"!(loop $a (x))", deep.ahead+"nop !(if (x))", deep.ahead+"(nop !(if (then)))"+deep.behind, deep.ahead+"(!x)")
	}
	// What is folded into another one, or into an if ahead of its then, does not stand in it.
	taken(t, in("(func "+strings.Repeat("(nop ", 1000)+strings.Repeat(")", 1000)+")"), in("(func "+strings.Repeat("(if ", 60)+strings.Repeat(" (then))", 60)+")"), in("(func "+strings.Repeat("(block ", 49)+"(if (block) (then nop))"+strings.Repeat(")", 49)+")"))
	wrongBody(t, strings.Repeat("(block ", 49)+"(if (block) (then !(block)))"+strings.Repeat(")", 49), strings.Repeat("(block ", 49)+"(if (block !(loop)) (then))"+strings.Repeat(")", 49))
}

func TestAssembleFolded(t *testing.T) {
	body(t, "(nop) (drop)", "01 1a")
	body(t, "(i32.add (i32.const 1) (i32.const 2))", "41 01 41 02 6a")
	body(t, "(drop (i32.add (local.get 0) (i32.mul (local.get 1) (local.get 2)))) nop", "20 00 20 01 20 02 6c 6a 1a 01")
	body(t, "(i32.const 5 (nop) (drop)) (br 1 (nop)) (br_table 1 2 (i32.const 0)) (call 7 (nop))", "01 1a 41 05 01 0c 01 41 00 0e 01 01 02 01 10 07")
	body(t, "(i32.store offset=4 align=1 (i32.const 1) (i32.const 2)) (i64.load (i32.const 1))", "41 01 41 02 36 00 04 41 01 29 03 00")
	body(t, "(call_indirect (i32.const 3)) (call_indirect (type 1) (param i32) (result i64) (nop) (nop))", "41 03 11 00 00 01 01 11 01 00")
	body(t, "(block) (loop) (block $a nop (nop) nop) (loop (result i32) i32.const 1 (block (type 1)))", "02 40 0b 03 40 0b 02 40 01 01 01 0b 03 7f 41 01 02 01 0b 0b")
	body(t, "(block block end) (loop if else end)", "02 40 02 40 0b 0b 03 40 04 40 05 0b 0b")
	body(t, "(nop (block drop) (loop))", "02 40 1a 0b 03 40 0b 01")
	body(t, "(if (then)) (if (then) (else)) (if $a (then nop) (else drop (nop)))", "04 40 0b 04 40 05 0b 04 40 01 05 1a 01 0b")
	body(t, "(if (result i32) (i32.const 1) (then i32.const 2) (else (i32.const 3)))", "41 01 04 7f 41 02 05 41 03 0b")
	body(t, "(if (nop) (drop) (then)) (if (type 1) (if (nop) (then)) (then (if (then))))", "01 1a 04 40 0b 01 04 40 0b 04 01 04 40 0b 0b")
	body(t, "(if (block) (loop) (then (nop) nop))", "02 40 0b 03 40 0b 04 40 01 01 0b")
	refused(t, api.ErrText, "(module (func (nop!")
	wrongBody(t, "(nop !nop)", "(i32.add (nop) !nop)", "(i32.add (nop) !0)", "(nop (!then))", "(nop (!else))", "(nop (!param i32))", "(block !end)", "(block nop !else)", "(loop (!else))", "(block (!then))", "(block !x)", "(block (result i32) (!param i32))", "(block $a !$b)",
		"(if!)", "(if !nop)", "(if (nop)!)", "(if (nop) !nop (then))", "(if (!else))", "(if (!x))", "(if (nop) (!else))", "(if (then) (!then))", "(if (then) (!nop))", "(if (then) !nop)", "(if (then) (!))", "(if (then) (else) !(else))", "(if (then) (else) !(nop))", "(if (then) (else) !nop)", "(if (then !end))", "(if (then) (else !else))", "(if (then !else))", "(if !then)", "(if (then) !else)", "(if $a !$b (then))", "(if (then !$a))", "(if (result i32) (!param i32) (then))", "(if (then) (else) !(then))")
}

func TestAssembleLabels(t *testing.T) {
	body(t, "block $a block $b br $a br $b br 7 br_if $a end br $a br_if 0 end", "02 40 02 40 0c 01 0c 00 0c 07 0d 01 0b 0c 00 0d 00 0b")
	body(t, "block $a block $a br $a end br $a end", "02 40 02 40 0c 00 0b 0c 00 0b")
	body(t, "block $a loop $b if $c br_table $a $b 9 $c else br $c br $a end end end", "02 40 03 40 04 40 0e 03 02 01 09 00 05 0c 00 0c 02 0b 0b 0b")
	body(t, "block $a block block br $a end end end", "02 40 02 40 02 40 0c 02 0b 0b 0b")
	body(t, "(block $a (br $a) (loop $b (br_if $a (br $b)) br $b))", "02 40 0c 00 03 40 0c 00 0d 01 0c 00 0b 0b")
	body(t, "(block $l (if $a (br $l) (then (br $a) (br $l)) (else (br $a))))", "02 40 0c 00 04 40 0c 00 0c 01 05 0c 00 0b 0b")
	body(t, "(block $l (if $l (br $l) (then (br $l))))", "02 40 0c 00 04 40 0c 00 0b 0b")
	body(t, "block $a end block $a br $a end", "02 40 0b 02 40 0c 00 0b")
	for _, text := range []string{"br !$a", "br_if !$a", "br_table !$a", "br_table 0 !$a 1", "block $b br !$a end", "block $a end br !$a", "block $a br_table $a !$b $a end", "(if $a (br !$a) (then))", "(if $a (then) (else)) br !$a", "if $a else end br !$a", "(block $a) (br !$a)", "(loop $a (block $b) (br !$b))", "block br !$_ end"} {
		refused(t, api.ErrName, in("(func "+text+")"))
	}
	// Labels are those of the function alone, and no other ids are labels.
	refused(t, api.ErrName, in("(type $t (func))", "(func $f (param $p i32) br !$f)", "(func $g block $a end)"), in("(func (param $p i32) br !$p)"), in("(func block $a end)", "(func br !$a)"))
}

// A type is the one that is told, or the first with the same kinds, or is added.
func TestAssembleUse(t *testing.T) {
	assembles(t, in("(type (func (param i32)))", "(type (func (param i32)))", "(func (param i32))", "(func)", "(func (type 1))", "(func (type 1) (param i32))", "(func (result i32))", "(func (param) (result))", "(func (param) (param i32))"),
		"01 [ 04 60 01 7f 00 60 01 7f 00 60 00 00 60 00 01 7f ] 03 [ 07 00 02 01 01 03 02 00 ] 0a [ 07 "+many(7, "[ 00 0b ]")+"]")
	assembles(t, in("(type $a (func (param i32 i64)))", "(type $b (func (result i32 i64)))", "(func (type $b))", "(func (type $a) (param $x i32) (param i64) block (type $b) end call_indirect (type $a))"),
		"01 [ 02 60 02 7f 7e 00 60 00 02 7f 7e ] 03 [ 02 01 00 ] 0a [ 02 [ 00 0b ] [ 00 02 01 0b 11 00 00 0b ] ] 00 [ 04 'name 02 [ 01 01 01 00 [ 'x ] ] ]")
	// Kinds that are alike in all but their order, or in where they stand, are others.
	assembles(t, in("(type (func (param i32 i64)))", "(func (param i64 i32))", "(func (result i32 i64))", "(func (param i32) (result i64))", "(func (param i32))"),
		"01 [ 05 60 02 7f 7e 00 60 02 7e 7f 00 60 00 02 7f 7e 60 01 7f 01 7e 60 01 7f 00 ] 03 [ 04 01 02 03 04 ] 0a [ 04 "+many(4, "[ 00 0b ]")+"]")
	// They are added as the uses stand in the text: the function's own ahead of what stands in it, that of what is folded behind the one into which it is.
	assembles(t, in("(func (param i32) block (param i64) call_indirect (result i64) loop (result i32 i32) end end)", "(func (result i64))"),
		"01 [ 04 60 01 7f 00 60 01 7e 00 60 00 01 7e 60 00 02 7f 7f ] 03 [ 02 00 02 ] 0a [ 02 [ 00 02 01 11 02 00 03 03 0b 0b 0b ] [ 00 0b ] ]")
	assembles(t, in("(func (call_indirect (param i32) (call_indirect (param i64))) (if (param i64 i64) (block (param i32 i32)) (then (block (result i32 i32)))))"),
		"01 [ 06 60 00 00 60 01 7f 00 60 01 7e 00 60 02 7e 7e 00 60 02 7f 7f 00 60 00 02 7f 7f ] 03 [ 01 00 ] 0a [ 01 [ 00 11 02 00 11 01 00 02 04 0b 04 03 02 05 0b 0b 0b ] ]")
	// A block that takes nothing and gives one kind at most needs none; a call always does.
	assembles(t, in("(type (func (param i32)))", "(func (type 0) block end block (result i64) end call_indirect call_indirect (result i64))"),
		"01 [ 03 60 01 7f 00 60 00 00 60 00 01 7e ] 03 [ 01 00 ] 0a [ 01 [ 00 02 40 0b 02 7e 0b 11 01 00 11 02 00 0b ] ]")
	assembles(t, in("(func (type 7) block (type 8) end call_indirect (type 9))"), "03 [ 01 07 ] 0a [ 01 [ 00 02 08 0b 11 09 00 0b ] ]")
	wrongBody(t, "call_indirect (type!)", "call_indirect (type !x)", "call_indirect (type 0) (!type 0)", "call_indirect (result i32) (!param i32)", "call_indirect (param i32) (!type 0)", "call_indirect !0", "call_indirect (param !x)", "call_indirect (!local i32)", "call_indirect !type", "(call_indirect !nop)")
}

func TestAssembleMatch(t *testing.T) {
	const types = "(type (func)) (type $t (func (param i32 i64) (result i32))) "
	for _, groups := range []string{"(type 0) (param)", "(type 0) (result)", "(type 0) (param) (result)", "(type 1) (param i32 i64) (result i32)", "(type 1) (param i32) (param) (param i64) (result) (result i32)", "(type $t) (param i32 i64) (result i32)", "(type 1)", "(type $t)", "(type 9)"} {
		taken(t, in(types+"(func "+groups+")"), in(types+"(func block "+groups+" end)"), in(types+"(func (if "+groups+" (then)))"), in(types+"(func call_indirect "+groups+")"))
	}
	for _, groups := range []string{"(type 0) (param i32)", "(type 0) (result i64)", "(type 1) (param)", "(type 1) (result)", "(type 1) (param i32 i64)", "(type 1) (result i32)", "(type $t) (param i32 i32) (result i32)", "(type $t) (param i32 i64) (result i64)", "(type $t) (param i32 i64 i64) (result i32)", "(type $t) (param i32 i64) (result i32 i32)", "(type 2) (param)", "(type 2) (result)", "(type 9) (param i32)", "(type 4294967295) (param i32 i64) (result i32)"} {
		groups = "(!" + groups[1:]
		refused(t, api.ErrMatch, in(types+"(func "+groups+")"), in(types+"(func block "+groups+" end)"), in(types+"(func nop (loop $l "+groups+"))"), in(types+"(func (if "+groups+" (then)))"), in(types+"(func call_indirect "+groups+")"), in(types+"(func (nop (call_indirect "+groups+")))"))
	}
	// What a type is, is looked up among those that are there by then.
	taken(t, in("(func (param i32))", "(func (type 0) (param i32))"), in("(func (param i32) block (type 0) (param i32) end)"), in("(func (type 0) block (param i64) end block (type 0) (param i64) end)"))
	refused(t, api.ErrMatch, in("(func (!type 0) (param i32))", "(func (param i32))"), in("(func (!type 0) (param i32) block (param i32) end)"), in("(func (param i32))", "(func (!type 1) (param i64))", "(func (param i64))"))
	// The first one is told, as they stand in the text.
	refused(t, api.ErrMatch, in(types+"(func (!type 0) (param i32) block (type 0) (result i32) end)"), in(types+"(func (call_indirect (!type 0) (param i32) (block (type 0) (result i32))))"), in(types+"(func (if (!type 0) (param i32) (block (type 0) (result i32)) (then)))"), in(types+"(func) (func (type 1)) (func (!type 1) (param)) (func (type 0) (param i32))"))
	// The name of no type is told as that.
	refused(t, api.ErrName, in(types+"(func (type !$x) (param i32))"), in(types+"(func (type !$x) (param))"), in(types+"(func block (type !$x) (result i64) end)"))
}

func TestAssembleTwice(t *testing.T) {
	const constant = " i32 (i32.const 0))"
	refused(t, api.ErrTwice, in("(type $a (func)) (type !$a (func))"), in("(type $a (func)) (type (func)) (type $b (func)) (type !$a (func)) (type $b (func))"), in("(func $a) (func $b) (func !$a) (func $b)"), in("(global $a"+constant+"(global $b"+constant+"(global !$b"+constant),
		in("(func (param $x i32) (param !$x i32))"), in("(func (param $x i32) (param $y i32) (local !$x i64))"), in("(func (local $x i32) (local i64) (local !$x i32))"), in("(func (type 0) (local $x i32) (local $y i64) (local $z i32) (local !$y i32) (local $x i32))"), in("(func) (func (local $x i32) (local !$x i32))"), in("(type (func (param i32 i32)))", "(func (type 0) (param $a i32) (param !$a i32))"))
	// Things of other sorts, and of other functions, may have the same.
	taken(t, in("(type $a (func)) (func $a (param $a i32) block $a block $a end end) (func $b (local $a i32)) (func (param $a i32) (param $b i32)) (global $a"+constant), in("(func $a) (func $A) (func $a.) (func $_a)"))
	// What has it first, keeps it.
	refused(t, api.ErrMatch, in("(type $a (func (param i32))) (type $a (func)) (func (type $a) (param i32)) (func (!type $a) (param))"))
}

func TestAssembleNames(t *testing.T) {
	assembles(t, in("(func call $b global.get $g call $a global.set $h)", "(func $b)", "(func $a call 2 call $b)", "(global i32 (i32.const 0))", "(global $h i32 (i32.const 0))", "(global $g i32 (i32.const 0))", `(export "" (func $a))`, `(export "" (global $h))`, "(start $b)", "(elem (i32.const 0) $a 7 $b)"),
		noType+"03 [ 03 00 00 00 ] 06 [ 03 7f 00 41 00 0b 7f 00 41 00 0b 7f 00 41 00 0b ] 07 [ 02 [ ] 00 02 [ ] 03 01 ] 08 [ 01 ] 09 [ 01 00 41 00 0b 03 02 07 01 ] 0a [ 03 [ 00 10 01 23 02 10 02 24 01 0b ] [ 00 0b ] [ 00 10 02 10 01 0b ] ] 00 [ 04 'name 01 [ 02 01 [ 'b ] 02 [ 'a ] ] ]")
	assembles(t, in("(func (param $x i32) local.get $x)", "(func $f)", "(func (local i32) (local $x i32) (local $y i64) local.set $y local.tee $x)"),
		"01 [ 02 60 01 7f 00 60 00 00 ] 03 [ 03 00 01 01 ] 0a [ 03 [ 00 20 00 0b ] [ 00 0b ] [ 02 02 7f 01 7e 21 02 22 01 0b ] ] 00 [ 04 'name 01 [ 01 01 [ 'f ] ] 02 [ 02 00 01 00 [ 'x ] 02 02 01 [ 'x ] 02 [ 'y ] ] ]")
	for _, code := range []string{"call X", "local.get X", "local.set X", "local.tee X", "global.get X", "global.set X", "(call X)", "br X", "block (type X) end", "call_indirect (type X)", "(call_indirect (type X) (nop))"} {
		refused(t, api.ErrName, in("(func "+strings.Replace(code, "X", "!$x", 1)+")"), in("(func (local $y i32) nop "+strings.Replace(code, "X", "!$z", 1)+" call $w)"))
	}
	// An id names only what is of the sort that is asked for.
	refused(t, api.ErrName, in("(func $f (local $p i32))", "(func call !$p)"), in("(func $f (local $p i32))", "(func local.get !$p)"), in("(func $f local.get !$f)"), in("(func $f global.get !$f)"), in("(func call !$g)", "(global $g i32 (i32.const 0))"), in("(type $t (func)) (func call !$t)"), in("(func $f (type !$f))"), in("(func $f (local $x i32) block (type !$x) end)"),
		in("(type $t (func)) (func (type $t) call !$t)"), in(`(func $f) (export "" (global !$f))`), in(`(func) (global $g i32 (i32.const 0)) (export "" (func !$g))`), in("(start !$g)"), in("(func $f) (elem (i32.const 0) $f !$g)"), in("(func call $a) (func $a) (elem (i32.const 0) 0 !$b $a)"), in("(func (type !$t))"))
	// The first one is told, as they stand in the text.
	refused(t, api.ErrName, in("(func call !$a local.get $b br $c global.get $d)"), in("(func local.get !$b call $a)"), in("(func (br !$a (call $b)))"), in("(func (call_indirect (type !$a) (call $b)))"), in("(func (if (type !$a) (call $b) (then)))"), in("(func br_table 0 !$a $b)"), in(`(func) (export "" (func !$a)) (start $b) (elem (i32.const 0) $c)`), in("(func (type !$a) call $b)"))
}

// Of several errors the one that is named first is told, wherever it stands.
func TestAssembleOrderOfErrors(t *testing.T) {
	faults := []struct {
		errno api.Errno
		text  string
	}{
		{api.ErrText, "(func !x)"}, {api.ErrMatch, "(func (!type 9) (param))"}, {api.ErrTwice, "(func (local $a i32) (local !$a i32))"}, {api.ErrName, "(func call !$b)"},
	}
	for i, first := range faults {
		for _, second := range faults[i:] {
			other := strings.Replace(second.text, "!", "", 1)
			refused(t, first.errno, in("(func)", first.text, other))
			if second.errno != first.errno {
				refused(t, first.errno, in("(func)", other, first.text))
			}
		}
	}
	refused(t, api.ErrText, "(module (func call $a (!type 9) (param)))", "(module (func $a) (func $a) (func call $b)!", "(module (func call $x!", in("(func $a) (func $a) (func call $b)")+" !)")
}
