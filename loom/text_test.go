package loom_test

import (
	"strings"
	"testing"

	"loom/api"
	"loom/loom"
)

// assembles asks whether a text is assembled to a module that is written so (see help_test.go).
func assembles(t *testing.T, text, to string) {
	t.Helper()
	want, _ := build(t, head+to)
	if got, errno, at := loom.Assemble(text); got != want || errno != api.OK || at != 0 {
		t.Errorf("P7: Assemble(%.300q) = %x, %d, %d, want %x", text, got, errno, at, want)
	}
}

// taken asks whether texts are assembled without an error.
func taken(t *testing.T, texts ...string) {
	t.Helper()
	for _, text := range texts {
		if got, errno, at := loom.Assemble(text); got == "" || errno != api.OK || at != 0 {
			t.Errorf("P7: Assemble(%.300q) = %x, %d, %d", text, got, errno, at)
		}
	}
}

// refused asks whether texts are refused with an error, at the place that is marked by `!`.
func refused(t *testing.T, want api.Errno, texts ...string) {
	t.Helper()
	for _, marked := range texts {
		ahead, behind, ok := strings.Cut(marked, "!")
		if !ok {
			t.Fatalf("no place is marked: %q", marked)
		}
		if got, errno, at := loom.Assemble(ahead + behind); got != "" || errno != want || at != len(ahead) {
			t.Errorf("P7: Assemble(%.300q) = %x, %d, %d, want %d, %d", marked, got, errno, at, want, len(ahead))
		}
	}
}

// in puts texts into a module.
func in(items ...string) string { return "(module " + strings.Join(items, " ") + ")" }

// repeated gives as many of a text, with blanks between.
func repeated(n int, text string) string { return strings.TrimSpace(many(n, text)) }

func TestAssembleExamples(t *testing.T) {
	assembles(t, `(module (func $id (param $x i32) (result i32) local.get $x) (export "id" (func $id)))`,
		"01 [ 01 60 01 7f 01 7f ] 03 [ 01 00 ] 07 [ 01 [ 'id ] 00 00 ] 0a [ 01 [ 00 20 00 0b ] ] 00 [ 04 'name 01 [ 01 00 [ 'id ] ] 02 [ 01 00 01 00 [ 'x ] ] ]")
	const second = "01 [ 01 60 00 01 7f ] 03 [ 01 00 ] 0a [ 01 [ 00 41 01 41 00 04 7f 41 02 05 41 03 0b 6a 0b ] ]"
	assembles(t, "(module (func (result i32) (i32.add (i32.const 1) (if (result i32) (i32.const 0) (then (i32.const 2)) (else (i32.const 3))))))", second)
	assembles(t, "(module (func (result i32) i32.const 1 i32.const 0 if (result i32) i32.const 2 else i32.const 3 end i32.add))", second)
	refused(t, api.ErrTwice, "(module (func $a) (func !$a))")
	refused(t, api.ErrName, "(module (func call !$b))")
	refused(t, api.ErrText, "(module (func !end))", "(module!")
	for _, c := range []struct {
		text  string
		errno api.Errno
		at    int
	}{
		{"(module (func i32.const 1))", api.ErrKind, 25}, {"(module (func drop))", api.ErrKind, 23}, {"(module (func unreachable i32.add drop))", api.OK, 0}, {"(module (func br 1))", api.ErrIndex, 24},
	} {
		bytes, _, _ := loom.Assemble(c.text)
		if errno, at := loom.Check(bytes); errno != c.errno || at != c.at {
			t.Errorf("P7: of %s: %d, %d, want %d, %d", c.text, errno, at, c.errno, c.at)
		}
	}
}

func TestAssembleBlanks(t *testing.T) {
	for _, text := range []string{
		"(module)", " \n( \n\nmodule\n )  \n", ";;\n;;;\n(;; (\nmodule;;\n);;", "(module) ;; no line feed \x00\t\r\xff\"", "(module;;)\n)", "(module;;;)\n)", ";; ;; ;;\n(module)\n\n",
	} {
		assembles(t, text, "")
	}
	assembles(t, `(module(memory 1 2)(export"a"(memory 0))(data(i32.const 0)"a""b";;"c"`+"\n))", "05 [ 01 01 01 02 ] 07 [ 01 [ 'a ] 02 00 ] 0b [ 01 00 41 00 0b [ 'ab ] ]")
}

// Bytes that begin no token, wherever they stand.
func TestAssembleBadBytes(t *testing.T) {
	for b := range 256 {
		one := string([]byte{byte(b)})
		switch {
		case b == ' ' || b == '\n':
			taken(t, one+"(module (memory 1"+one+")"+one+")"+one)
		case b == '(' || b == ')' || b == '"':
		case b == '!':
			if got, errno, at := loom.Assemble("(module !)"); got != "" || errno != api.ErrText || at != 8 {
				t.Errorf("P7: %q, %d, %d", got, errno, at)
			}
		case strings.Contains("abcdefghijklmnopqrstuvwxyzABCDEFGHIJKLMNOPQRSTUVWXYZ0123456789_.$-=", one):
			// It goes on with the word, so that this is no number, or a greater one.
			refused(t, api.ErrText, "(module (memory !4294967295"+one+"))", "(module) !"+one)
		default:
			refused(t, api.ErrText, "!"+one+"(module)", "(module!"+one+")", "(module !"+one+" )", "(module (memory 1!"+one+"))", "(module)!"+one, "(module) !"+one+"(")
		}
	}
	refused(t, api.ErrText, "(module !; ;)", "(module)!;", "(module (memory 1!;2))", "(module (func nop!,nop))", "(module (func !é))")
}

func TestAssembleStrings(t *testing.T) {
	for _, b := range []int{0, 100, 200} {
		text, bytes := "", ""
		for i := b; i < min(b+100, 256); i++ {
			one := string([]byte{byte(i)})
			bytes += digits(one)
			if plain := i >= 32 && i <= 126 && i != '"' && i != '\\'; plain && i%2 == 0 {
				text += one
			} else {
				text += "\\" + strings.TrimSpace(digits(one))
			}
		}
		assembles(t, in("(data (i32.const 0) \""+text+"\")"), "0b [ 01 00 41 00 0b [ "+bytes+" ] ]")
	}
	assembles(t, in(`(data (i32.const 0) "();;  $" "" "\5c\22")`), "0b [ 01 00 41 00 0b [ 28 29 3b 3b 20 20 24 5c 22 ] ]")
	for _, wrong := range []string{`"`, `"a`, `"\`, `"\0`, `"\"`, `"\0"`, `"\00`, `"\0g"`, `"\g0"`, `"\0A"`, `"\A0"`, `"\n"`, `"\\"`, `"\:0"`, "\"\n\"", "\"\t\"", "\"\x1f\"", "\"\x7f\"", "\"é\"", `"\22\"`} {
		refused(t, api.ErrText, "(module (data (i32.const 0) !"+wrong+"))", "(module (export !"+wrong+" (func 0)))", "(module !"+wrong+")")
	}
}

// A text that is cut off behind any of its tokens ends too early, whatever blanks stand there.
func TestAssembleEndsTooEarly(t *testing.T) {
	bytes, _ := build(t, head+sample)
	text, _, _ := loom.Print(bytes)
	for at := range len(text) {
		if text[at] == ' ' || text[at] == '\n' || text[at] == ')' {
			refused(t, api.ErrText, text[:at]+"!", strings.TrimRight(text[:at], " \n")+"  \n;;  !")
		}
	}
	refused(t, api.ErrText, "!", "(!", " \n!", ";; (module)!", "(module!", "(module (!", "(module (func (!", "(module (func (if (then) (!", "(module (func (type !")
	taken(t, text)
}

func TestAssembleItems(t *testing.T) {
	assembles(t, in("(type (func))", "(type $a (func (param i32)))", "(type (func (param) (param i64 i32) (param) (param i64) (result) (result i32) (result i64)))"),
		"01 [ 03 60 00 00 60 01 7f 00 60 03 7e 7f 7e 02 7f 7e ]")
	assembles(t, in("(table 0)", "(memory 4294967295)"), "04 [ 01 70 00 00 ] 05 [ 01 00 ff ff ff ff 0f ]")
	assembles(t, in("(table 300 4294967295)", "(memory 128 0)"), "04 [ 01 70 01 ac 02 ff ff ff ff 0f ] 05 [ 01 01 80 01 00 ]")
	assembles(t, in("(global i32 (i32.const -5))", "(global $g (mut i64) (i64.const 5))", "(global $h (mut i32) (i64.const 64))"), "06 [ 03 7f 00 41 7b 0b 7e 01 42 05 0b 7f 01 42 c0 00 0b ]")
	assembles(t, in(`(export "" (func 300))`, `(export "a b" (table 1))`, `(export "a b" (memory 0))`, `(export "\7e\20" (global 2))`),
		"07 [ 04 [ ] 00 ac 02 03 'a 20 'b 01 01 03 'a 20 'b 02 00 02 '~ 20 03 02 ]")
	assembles(t, in("(start 128)"), "08 [ 80 01 ]")
	assembles(t, in("(elem (i32.const 0))", "(elem (i64.const -1) 0 4294967295 7)"), "09 [ 02 00 41 00 0b 00 00 42 7f 0b 03 00 ff ff ff ff 0f 07 ]")
	assembles(t, in("(data (i32.const 0))", `(data (i64.const 1) "" "a" "")`), "0b [ 02 00 41 00 0b [ ] 00 42 01 0b [ 'a ] ]")
	assembles(t, in("(func)", "(func (local i64) nop)"), "01 [ 01 60 00 00 ] 03 [ 02 00 00 ] 0a [ 02 [ 00 0b ] [ 01 01 7e 01 0b ] ]")
	assembles(t, in("(func (local i32) (local) (local i32 i64) (local $x i64) (local i32))"), oneFunc+"0a [ 01 [ 03 02 7f 02 7e 01 7f 0b ] ] 00 [ 04 'name 02 [ 01 00 01 03 [ 'x ] ] ]")
}

// The items of each sort have their place in the order: none may stand behind a later one.
func TestAssembleOrder(t *testing.T) {
	items := []string{"(type (func))", "(func)", "(table 1)", "(memory 1)", "(global i32 (i32.const 0))", `(export "a" (func 0))`, "(start 0)", "(elem (i32.const 0))", `(data (i32.const 0) "")`}
	taken(t, in(items...))
	for i, late := range items {
		for j, early := range items {
			once := strings.Contains("(table 1) (memory 1) (start 0)", early)
			if j < i || j == i && once {
				refused(t, api.ErrText, in(late, "(!"+early[1:]))
			} else {
				taken(t, in(late, early))
			}
		}
	}
}

func TestAssembleWrongItems(t *testing.T) {
	refused(t, api.ErrText,
		"!module", "!)", "(!)", "(!modul)", "(!Module)", "(!module$a)", `(!"module")`, "(!(module))", "(module)!)", "(module) !(module)", "(module) !x", "(module (!module))",
		in("!x"), in("!type"), in("!0"), in("!$a"), in(`!"a"`), in("(!)"), in("(!x)"), in("(!$a)"), in("(!(func))"), in(`(!"func")`), in("(!types)"), in("(func) !func"), in(`(data (i32.const 0)) (!x)`),
	)
	refused(t, api.ErrText,
		in("(type!)"), in("(type !x)"), in("(type $a !$b (func))"), in("(type !func)"), in("(type (!param))"), in("(type (!$a func))"), in("(type (func) !(func))"), in("(type (func) !$a)"), in("(type (func !i32))"), in("(type (func !$a))"),
		in("(type (func (param !$x i32)))"), in("(type (func (param i32 !$x)))"), in("(type (func (param !i33)))"), in("(type (func (param !(param))))"), in("(type (func (result !$x i32)))"), in("(type (func (result i32 !x)))"), in("(type (func (result i32) (!param i32)))"), in("(type (func (!type 0)))"), in("(type (func (!local i32)))"), in("(type (func (!nop)))"), in("(type (func (!)))"),
	)
	refused(t, api.ErrText,
		in("(table!)"), in("(table !x)"), in("(table !$t 1)"), in("(table 1 !x)"), in("(table 1 2 !3)"), in("(table !(x))"), in("(table 1 !(x))"), in(`(table !"1")`), in(`(table 1 !"1")`), in("(memory!)"), in("(memory !$m)"), in("(memory 1 1 !1)"), in("(memory 1 !i32)"),
		in("(global!)"), in("(global !x)"), in("(global $a !$b i32 (i32.const 0))"), in("(global i32!)"), in("(global i32 !i32 (i32.const 0))"), in("(global (!i32) (i32.const 0))"), in("(global (mut!) (i32.const 0))"), in("(global (mut !x) (i32.const 0))"), in("(global (mut i32 !i32) (i32.const 0))"), in("(global (mut i32)!)"), in("(global !mut i32 (i32.const 0))"), in("(global (!i32.const 0))"), in("(global i32 (i32.const 0) !(i32.const 0))"),
		in("(global i32 !i32.const 0)"), in("(global i32 (!))"), in("(global i32 (!x))"), in("(global i32 (!nop))"), in("(global i32 (!unreachable))"), in("(global i32 (!i32.add 0))"), in("(global i32 (i32.const!))"), in("(global i32 (i32.const !x))"), in("(global i32 (i32.const 0 !0))"), in("(global i32 (i32.const 0 !(nop)))"), in("(global i32 (i32.const !(i32.const 0)))"), in(`(global i32 (i32.const !"0"))`), in("(global i32 (!i32 0))"),
	)
	refused(t, api.ErrText,
		in("(export!)"), in("(export !a (func 0))"), in("(export !(func 0))"), in(`(export "a"!)`), in(`(export "a" !func 0)`), in(`(export "a" !"b" (func 0))`), in(`(export "a" (!))`), in(`(export "a" (!x 0))`), in(`(export "a" (!"func" 0))`), in(`(export "a" (func!))`), in(`(export "a" (func !x))`), in(`(export "a" (func 0 !0))`), in(`(export "a" (func 0) !(func 0))`), in(`(export "a" (table !$a))`), in(`(export "a" (memory !$a))`), in(`(export "a" (table!))`), in(`(export "a" (memory 0 !0))`), in(`(export "a" (global !(x)))`), in(`(export !$a "a" (func 0))`), in(`(export "a" (!start 0))`), in(`(export "a" (!type 0))`),
		in(`(export !"\00" (func 0))`), in(`(export !"a\22" (func 0))`), in(`(export !"\5c" (func 0))`), in(`(export !"\7f" (func 0))`), in(`(export !"\1f" (func 0))`), in(`(export !"\ff" (func 0))`),
		in("(start!)"), in("(start !x)"), in("(start 0 !0)"), in("(start !(x))"), in(`(start !"0")`),
		in("(elem!)"), in("(elem !0)"), in("(elem (!func))"), in("(elem (i32.const 0) !x)"), in("(elem (i32.const 0) 0 !x)"), in("(elem (i32.const 0) !(x))"), in(`(elem (i32.const 0) !"0")`), in("(elem !$a (i32.const 0))"), in("(elem (i32.const 0) 0 !(i32.const 0))"),
		in("(data!)"), in(`(data !"a")`), in("(data (!func))"), in("(data (i32.const 0) !x)"), in(`(data (i32.const 0) "a" !0)`), in(`(data (i32.const 0) "a" !("a"))`), in("(data !$a (i32.const 0))"),
	)
}

// What may be just so many times, and once more.
func TestAssembleTooMany(t *testing.T) {
	for _, c := range []struct {
		most int
		item string
	}{
		{20, "(type (func))"}, {20, "(func)"}, {10, "(global i32 (i32.const 0))"}, {20, `(export "" (func 0))`}, {5, "(elem (i32.const 0))"}, {10, "(data (i32.const 0))"},
	} {
		taken(t, in(repeated(c.most, c.item)))
		refused(t, api.ErrText, in(repeated(c.most, c.item), "!"+c.item), in(repeated(c.most, c.item), "!"+c.item[:strings.LastIndexByte(c.item, ')')]+" x)"), in(repeated(c.most, c.item), "(!x)"))
	}
	taken(t, in("(elem (i32.const 0)"+strings.Repeat(" 0", 20)+")"), in(`(data (i32.const 0) "`+strings.Repeat("x", 100)+`" "")`), in(`(data (i32.const 0) "`+strings.Repeat(`\00`, 99)+`" "y")`), in(`(export "`+strings.Repeat("x", 20)+`" (func 0))`), in(`(export "`+strings.Repeat(`\41`, 20)+`" (func 0))`))
	refused(t, api.ErrText, in("(elem (i32.const 0)"+strings.Repeat(" 0", 20)+" !0)"), in("(elem (i32.const 0)"+strings.Repeat(" 0", 20)+" !$a)"),
		in(`(data (i32.const 0) !"`+strings.Repeat("x", 101)+`")`), in(`(data (i32.const 0) "`+strings.Repeat(`\00`, 100)+`" "" !"y" "z")`),
		in(`(export !"`+strings.Repeat("x", 21)+`" (func 0))`), in(`(export !"`+strings.Repeat(`\41`, 21)+`" (func 0))`))
}

func TestAssembleTooManyKinds(t *testing.T) {
	const seven, four = "i32 i64 i32 i64 i32 i64 i32", "i64 i32 i64 i32"
	const eight = seven + " i64"
	for _, around := range []struct{ ahead, behind string }{
		{"(type (func ", "))"}, {"(func ", ")"}, {"(func (type 0) ", ")"}, {"(func block ", " end)"}, {"(func (loop ", "))"}, {"(func (if ", " (then)))"}, {"(func call_indirect ", ")"}, {"(func (call_indirect ", "))"}, {"(func block (type 0) ", " end)"},
	} {
		put := func(groups string) string {
			return in("(type (func (param " + eight + ") (result " + four + ")))" + around.ahead + groups + around.behind)
		}
		taken(t, put("(param "+eight+") (result "+four+")"), put("(param) (param i32) (param i64 i32 i64 i32 i64) (param i32) (param i64) (param) (result i64) (result) (result i32 i64 i32) (result)"))
		refused(t, api.ErrText, put("(param "+eight+" !i32) (result "+four+")"), put("(param "+eight+" !i32 x)"), put("(param i32) (param "+seven+" !i32)"), put("(result "+four+" !i64)"), put("(result "+four+") (result !i64)"), put("(param "+eight+") (param) (param !i64)"))
	}
	// A kind with an id is one too many itself, not its id.
	refused(t, api.ErrText, in("(func (param "+eight+") (param $x !i32))"), in("(func (local"+strings.Repeat(" i32", 50)+") (local $x !i32))"), in("(func (local"+strings.Repeat(" i32", 50)+" !i64))"), in("(func"+strings.Repeat(" (local i64)", 50)+" (local) (local !i32))"))
	taken(t, in("(func (param "+eight+") (local"+strings.Repeat(" i32", 49)+") (local $x i64) (local))"))
}

// others gives so many types or functions of which no two have the same kinds, none of them (param i64) or (param i32 i64).
func others(n int, ahead, behind string) string {
	all := ""
	for i := range n {
		all += ahead + "(param" + strings.Repeat(" i32", i%7) + ") (result" + strings.Repeat(" i64", i/7) + ")" + behind
	}
	return all
}

// A use that adds a type too many: the token behind it cannot stand there.
func TestAssembleTooManyTypes(t *testing.T) {
	types := others(20, "(type (func ", "))")
	uses := others(20, "(func ", ")")
	taken(t, in(types+uses), in(uses), in(types+"(func block (result i32) end block (result i64) end call_indirect)"), in(types+"(func (type 20) block (type 21) end call_indirect (type 22))"))
	for _, item := range []string{
		"(func (param i64)!)", "(func $f (param $x i64) !nop)", "(func (param i64) !(nop))", "(func (param i64) !(local i32))", "(func (param i64) !x)", "(func (param i64) !\t)", "(func block (param i64) !end)", "(func block (result i32 i32) !nop end)", "(func (loop $l (param i64) !nop))", "(func (if (param i64) !(nop) (then)))", "(func (if (param i64) !(then)))", "(func call_indirect (param i64) !drop)", "(func (call_indirect (param i64)!))", "(func (call_indirect (param i64) !(nop)))",
	} {
		refused(t, api.ErrText, in(types+item))
	}
	refused(t, api.ErrText, "(module "+types+"(func (param i64)!",
		in(others(19, "(type (func ", "))")+"(func (param i64)) (func (param i64)) (func (param $x i64)) (func (param i32 i64)!)"),
		in(others(18, "(func ", ")")+"(func (param i64) block (param i32 i64) block (param i64 i64) !end end)"))
}

func TestAssembleIDs(t *testing.T) {
	for _, name := range []string{"a", "Z", "0", "9", "_", ".", "x.y_Z0", "func", "i32", "12", strings.Repeat("x", 20)} {
		id := "$" + name
		sized := "[ '" + name + " ]"
		assembles(t, in("(type "+id+" (func (param i32)))", "(func "+id+" (type "+id+") (param "+id+" i32) block "+id+" br "+id+" end local.get "+id+" global.get "+id+" call "+id+")", "(global "+id+" i32 (i32.const 0))", `(export "" (func `+id+"))", `(export "" (global `+id+"))", "(start "+id+")", "(elem (i32.const 0) "+id+")"),
			"01 [ 01 60 01 7f 00 ] 03 [ 01 00 ] 06 [ 01 7f 00 41 00 0b ] 07 [ 02 [ ] 00 00 [ ] 03 00 ] 08 [ 00 ] 09 [ 01 00 41 00 0b 01 00 ] 0a [ 01 [ 00 02 40 0c 00 0b 20 00 23 00 10 00 0b ] ] 00 [ 04 'name 01 [ 01 00 "+sized+" ] 02 [ 01 00 01 00 "+sized+" ] ]")
	}
	for _, wrong := range []string{"$", "$-", "$a-b", "$$", "$a$", "$=", "$a=", "-$a", "a", "$" + strings.Repeat("x", 21)} {
		refused(t, api.ErrText, in("(type !"+wrong+" (func))"), in("(func !"+wrong+")"), in("(func (type !"+wrong+"))"), in("(func (param !"+wrong+" i32))"), in("(func (local !"+wrong+" i32))"), in("(global !"+wrong+" i32 (i32.const 0))"), in("(start !"+wrong+")"), in(`(export "" (func !`+wrong+"))"), in(`(export "" (global !`+wrong+"))"), in("(elem (i32.const 0) !"+wrong+")"))
		for _, code := range []string{"call X", "br X", "br_if X", "br_table X", "br_table 0 X", "block X end", "loop X end", "if X end", "(block X)", "(if X (then))", "local.get X", "local.set X", "local.tee X", "global.get X", "global.set X", "call_indirect (type X)", "block (type X) end"} {
			refused(t, api.ErrText, in("(func "+strings.Replace(code, "X", "!"+wrong, 1)+")"))
		}
	}
}

// A param or local with an id stands in a group of its own.
func TestAssembleNamedGroups(t *testing.T) {
	assembles(t, in("(func (param $a i32) (param i64 i64) (param $b i64) (result i32) (local i32) (local $c i64) local.get $a local.set $b local.tee $c)"),
		"01 [ 01 60 04 7f 7e 7e 7e 01 7f ] 03 [ 01 00 ] 0a [ 01 [ 02 01 7f 01 7e 20 00 21 03 22 05 0b ] ] 00 [ 04 'name 02 [ 01 00 03 00 [ 'a ] 03 [ 'b ] 05 [ 'c ] ] ]")
	// The params of a type that is told by its index are counted, too.
	assembles(t, in("(type (func (param i32 i32)))", "(func (type 0) (local $x i64) local.get $x)", "(func (type 0) (param i32) (param $p i32) (local $x i64) local.get $x local.get $p)"),
		"01 [ 01 60 02 7f 7f 00 ] 03 [ 02 00 00 ] 0a [ 02 [ 01 01 7e 20 02 0b ] [ 01 01 7e 20 02 20 01 0b ] ] 00 [ 04 'name 02 [ 02 00 01 02 [ 'x ] 01 02 01 [ 'p ] 02 [ 'x ] ] ]")
	// One that is not there has no params.
	assembles(t, in("(func $f (type 5) (local $x i64) local.get $x)"), "03 [ 01 05 ] 0a [ 01 [ 01 01 7e 20 00 0b ] ] 00 [ 04 'name 01 [ 01 00 [ 'f ] ] 02 [ 01 00 01 00 [ 'x ] ] ]")
	assembles(t, in("(func (type 0) (local $x i64) local.get $x)", "(func (param i32))"), "01 [ 01 60 01 7f 00 ] 03 [ 02 00 00 ] 0a [ 02 [ 01 01 7e 20 00 0b ] [ 00 0b ] ] 00 [ 04 'name 02 [ 01 00 01 00 [ 'x ] ] ]")
	refused(t, api.ErrText, in("(func (param $x!))"), in("(func (param $x i32 !i32))"), in("(func (param i32 !$x))"), in("(func (param $x !$y i32))"), in("(func (param $x !(i32)))"), in("(func (local $x!))"), in("(func (local $x i64 !i64))"), in("(func (local i64 !$x i64))"), in("(func (result !$x i32))"),
		in("(func block (param !$x i32) end)"), in("(func call_indirect (param !$x i32))"), in("(func (if (param !$x i32) (then)))"), in("(func (type 0) (result !$x i32))"))
}

// numbers are words for a U, and those that are none.
func TestAssembleNumbers(t *testing.T) {
	for text, want := range map[string]string{"0": "00", "9": "09", "10": "0a", "127": "7f", "128": "8001", "4294967295": "ffffffff0f"} {
		assembles(t, in("(memory "+text+" "+text+")", "(start "+text+")"), "05 [ 01 01 "+want+" "+want+" ] 08 [ "+want+" ]")
		assembles(t, in("(type (func))", "(func (type "+text+") br "+text+" br_table "+text+" "+text+" call "+text+" local.get "+text+" global.set "+text+" call_indirect (type "+text+") i32.load offset="+text+")"),
			noType+"03 [ 01 "+want+" ] 0a [ 01 [ 00 0c "+want+" 0e 01 "+want+" "+want+" 10 "+want+" 20 "+want+" 24 "+want+" 11 "+want+" 00 28 02 "+want+" 0b ] ]")
	}
	for _, wrong := range []string{"00", "01", "-0", "-1", "--1", "1-", "4294967296", "18446744073709551616", "99999999999999999999999", "1_0", "0x1", "1.0", "1e1", "x", "=1", "_"} {
		for _, code := range []string{"(memory X)", "(memory 1 X)", "(table X)", "(table 1 X)", `(export "" (func X))`, `(export "" (table X))`, `(export "" (memory X))`, `(export "" (global X))`, "(start X)", "(elem (i32.const 0) X)", "(elem (i32.const 0) 0 X)", "(func (type X))", "(func br X)", "(func br_if X)", "(func br_table X)", "(func br_table 0 X)", "(func call X)", "(func local.get X)", "(func global.set X)", "(func call_indirect (type X))", "(func i32.load offset=X)", "(func i64.store align=X)"} {
			code = strings.Replace(code, "offset=X", "!offset=X", 1)
			code = strings.Replace(code, "align=X", "!align=X", 1)
			if strings.Contains(code, "!") {
				code = strings.Replace(code, "X", wrong, 1)
			} else {
				code = strings.Replace(code, "X", "!"+wrong, 1)
			}
			refused(t, api.ErrText, in(code))
		}
	}
}

// The number of a constant, with a sign or without.
func TestAssembleConstants(t *testing.T) {
	both := func(kind, text, value string) {
		t.Helper()
		word, name := "41", "7f"
		if kind == "i64" {
			word, name = "42", "7e"
		}
		assembles(t, in("(func "+kind+".const "+text+")", "(global "+kind+" ("+kind+".const "+text+"))", "(elem ("+kind+".const "+text+"))", "(data ("+kind+".const "+text+"))"),
			oneFunc+"06 [ 01 "+name+" 00 "+word+value+" 0b ] 09 [ 01 00 "+word+value+" 0b 00 ] 0a [ 01 [ 00 "+word+value+" 0b ] ] 0b [ 01 00 "+word+value+" 0b 00 ]")
	}
	for text, want := range map[string]string{"0": "00", "-0": "00", "1": "01", "-1": "7f", "63": "3f", "64": "c000", "-64": "40", "-65": "bf7f", "2147483647": "ffffffff07", "-2147483648": "8080808078"} {
		both("i32", text, want)
		both("i64", text, want)
	}
	for text, want := range map[string]string{"2147483648": "8080808078", "2147483649": "8180808078", "4294967295": "7f", "4294967294": "7e", "-2147483647": "8180808078"} {
		both("i32", text, want)
	}
	for text, want := range map[string]string{"2147483648": "8080808008", "4294967295": "ffffffff0f", "-2147483649": "ffffffff77", "9223372036854775807": "ffffffffffffffffff00", "9223372036854775808": "8080808080808080807f", "18446744073709551615": "7f", "-9223372036854775808": "8080808080808080807f", "-9223372036854775807": "8180808080808080807f"} {
		both("i64", text, want)
	}
	wrong := func(kind string, texts ...string) {
		t.Helper()
		for _, text := range texts {
			refused(t, api.ErrText, in("(func "+kind+".const !"+text+")"), in("(func ("+kind+".const !"+text+"))"), in("(global "+kind+" ("+kind+".const !"+text+"))"), in("(elem ("+kind+".const !"+text+"))"), in("(data ("+kind+".const !"+text+"))"))
		}
	}
	wrong("i32", "4294967296", "-2147483649", "-4294967295", "-4294967296", "18446744073709551615")
	wrong("i64", "18446744073709551616", "-9223372036854775809", "-18446744073709551615")
	for _, kind := range []string{"i32", "i64"} {
		wrong(kind, "00", "05", "-00", "-05", "--1", "-", "1-1", "x", "0x1", "1.5", "$a", "1_0", `"1"`, "(1)", "")
	}
}

func TestAssembleLong(t *testing.T) {
	long := strings.Repeat(" ", 59992) + "(module)"
	assembles(t, long, "")
	for _, text := range []string{" " + long, strings.Repeat("x", 60001), strings.Repeat("(", 70000)} {
		if got, errno, at := loom.Assemble(text); got != "" || errno != api.ErrLong || at != 0 {
			t.Errorf("P7: of %d bytes: %x, %d, %d", len(text), got, errno, at)
		}
	}
	// The bytes of a module may be just so many: a nop is one of them.
	for nops := 4970; nops < 4980; nops++ {
		want, _ := build(t, head+oneFunc+"0a [ 01 [ 00 "+many(nops, "01")+"0b ] ]")
		wantErrno := api.OK
		if len(want) > api.MaxBytes {
			want, wantErrno = "", api.ErrLong
		}
		if got, errno, at := loom.Assemble(in("(func", repeated(nops, "nop"), ")")); got != want || errno != wantErrno || at != 0 {
			t.Errorf("P7: of %d nop: %d bytes, %d, %d, want %d bytes, %d", nops, len(got), errno, at, len(want), wantErrno)
		}
	}
	// That the bytes are too many is told last.
	nops := repeated(5000, "nop")
	refused(t, api.ErrText, in("(func", nops, ") !x"))
	refused(t, api.ErrName, in("(func", nops, "call !$a)"))
	refused(t, api.ErrTwice, in("(func $a", nops, ") (func !$a)"))
	refused(t, api.ErrMatch, in("(func", nops, "block (!type 5) (param) end)"))
}
