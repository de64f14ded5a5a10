package loom_test

import (
	"iter"
	"strings"
	"sync"
	"testing"

	"loom/api"
	"loom/loom"
)

// answer is what the calls that look at bytes tell of them.
type answer struct {
	errno           api.Errno
	at              int
	packed, printed string
}

// textAnswer is what Assemble tells of a text.
type textAnswer struct {
	bytes string
	errno api.Errno
	at    int
}

// answerTo asks all that look at bytes; where they do not agree on the error and its place, the error is one that there is not.
func answerTo(bytes string) answer {
	errno, at := loom.Check(bytes)
	packed, packErrno, packAt := loom.Pack(bytes)
	printed, printErrno, printAt := loom.Print(bytes)
	if packErrno != errno || printErrno != errno || packAt != at || printAt != at {
		return answer{errno: -1}
	}
	return answer{errno, at, packed, printed}
}

func answerToText(text string) textAnswer {
	bytes, errno, at := loom.Assemble(text)
	return textAnswer{bytes, errno, at}
}

// comesBack asks of bytes that fit what P10 tells: what is printed is assembled to what is packed, and that is printed alike.
func comesBack(t *testing.T, bytes string) {
	t.Helper()
	a := answerTo(bytes)
	if back := answerToText(a.printed); back != (textAnswer{bytes: a.packed}) {
		t.Errorf("P10: of %x: %v; of what is printed: %v", bytes, a, back)
	}
	if again := answerTo(a.packed); again != a {
		t.Errorf("P10: of %x: %v; of what is packed: %v", bytes, a, again)
	}
}

// odd are strings that are no modules, or hardly.
func odd() []string {
	return []string{
		"", "\x00", "\x00asm", "(module)", "(module (func end))", "é", "\xff\xfe", strings.Repeat("(", 300), strings.Repeat("\x00", 5000), strings.Repeat("x", 60001),
		"\x00asm\x01\x00\x00\x00" + strings.Repeat("\xff", 4992), "\x00asm\x01\x00\x00\x00\x0a\xff\xff\xff\xff\x0f\x00",
	}
}

// changed tells what comes of the sample.
func changed(t *testing.T) iter.Seq[string] {
	whole, _ := build(t, head+sample)
	return changesOf(whole)
}

// changesOf tells bytes with each of them changed to each other one, and all that is cut off or doubled.
func changesOf(whole string) iter.Seq[string] {
	return func(yield func(string) bool) {
		for i := range len(whole) {
			for b := range 256 {
				if !yield(whole[:i] + string([]byte{byte(b)}) + whole[i+1:]) {
					return
				}
			}
			if !yield(whole[:i]+whole[i+1:]) || !yield(whole[:i]+whole[i:i+1]+whole[i:]) || !yield(whole[:i]+whole) {
				return
			}
		}
	}
}

// P1: whatever the bytes are, Check, Pack and Print end with one error that they may tell, a place that there is, and nothing else; without an error the place is 0. P5, P6, P10: what Pack gives fits, packs to itself, is no longer, and is printed alike; what is printed is assembled to it.
func TestAnswers(t *testing.T) {
	ask := func(bytes string) {
		t.Helper()
		a := answerTo(bytes)
		switch {
		case a.errno == api.OK:
			if a.at != 0 || len(a.packed) > len(bytes) {
				t.Errorf("P1, P5: of %x: %v", bytes, a)
			}
			comesBack(t, bytes)
		case a.packed != "" || a.printed != "":
			t.Errorf("P1: of %x there is more than an error: %v", bytes, a)
		case a.errno < api.ErrLong || a.errno > api.ErrTwice:
			t.Errorf("P1: of %x a call tells the error %d", bytes, a.errno)
		case a.at < 0 || a.at > len(bytes) || a.errno != api.ErrBytes && a.at >= len(bytes) || a.errno == api.ErrLong && a.at != 0:
			t.Errorf("P1: of %x a call tells the place %d beside %d", bytes, a.at, a.errno)
		}
	}
	for _, bytes := range odd() {
		ask(bytes)
	}
	for bytes := range changed(t) {
		ask(bytes)
	}
}

// changedText tells a text that has something of all with each byte changed to some others, and all that is cut off, left out or doubled.
func changedText(yield func(string) bool) {
	const whole = `(module (type $t (func (param i32 i64) (result i32))) (type (func)) ;; types
(func $f (type $t) (param $x i32) (param i64) (result i32) (local $y i64) (local i32)
  block $a (result i32) i32.const -12 local.get $x br_if $a block $b loop $c local.get 0 br_table $b 0 $c end end end
  (if (result i32) (i32.eqz (local.get 0)) (then (i32.load offset=8 align=2 (i32.const 4294967295))) (else (call $f (local.get $x) (local.get 1)))) i32.add
  local.get 3 if else end (call_indirect (type 1) (local.get 3)) i64.const 5 local.set $y)
(func global.get $g drop) (func (param i64) (drop (i32.const 0))) (table 1 2) (memory 3) (global $g (mut i32) (i32.const 7))
(export "a b" (func $f)) (export "m" (memory 0)) (start 1) (elem (i32.const 0) $f 1) (data (i32.const 1) "x\0a" "y"))`
	for i := range len(whole) {
		for _, b := range " \n()\";$-=_.019azA\\\t\x00\xff" {
			if !yield(whole[:i] + string([]byte{byte(b)}) + whole[i+1:]) {
				return
			}
		}
		for _, cut := range []string{whole[:i], whole[i:], whole[:i] + whole[i+1:], whole[:i] + whole[i:i+1] + whole[i:], whole[:i] + " " + whole[i:], whole[:i] + whole} {
			if !yield(cut) {
				return
			}
		}
	}
}

// P1: whatever the text is, Assemble ends with one error that it may tell, a place that there is, and nothing else. P7, P10: without an error there are bytes that are a module, though it need not fit; if it does, they are packed already, and what is printed of them is assembled to them.
func TestAssembleAnswers(t *testing.T) {
	taken, fitting := 0, 0
	for text := range changedText {
		a := answerToText(text)
		switch {
		case a.errno == api.OK:
			taken++
			of := answerTo(a.bytes)
			if a.at != 0 || of.errno == api.ErrBytes || of.errno == api.ErrLong {
				t.Errorf("P1, P7: of %q: %v; of its bytes: %v", text, a, of)
			}
			if of.errno != api.OK {
				break
			}
			fitting++
			if back := answerToText(of.printed); of.packed != a.bytes || back != a {
				t.Errorf("P7, P10: of %q: %v; of its bytes: %v; of what is printed: %v", text, a, of, back)
			}
		case a.bytes != "":
			t.Errorf("P1: of %q there is more than an error: %v", text, a)
		case a.errno != api.ErrText && a.errno != api.ErrMatch && a.errno != api.ErrTwice && a.errno != api.ErrName:
			t.Errorf("P1: of %q Assemble tells the error %d", text, a.errno)
		case a.at < 0 || a.at > len(text) || a.errno != api.ErrText && a.at >= len(text):
			t.Errorf("P1: of %q Assemble tells the place %d beside %d", text, a.at, a.errno)
		case a.errno == api.ErrText:
			canStand(t, text[:a.at])
		}
	}
	if taken < 500 || fitting < 100 {
		t.Errorf("only %d texts were taken, of which %d fit", taken, fitting)
	}
}

// canStand asks of what stands ahead of a token that is refused whether none ahead of it is: by itself it ends too early, or is all of a module.
func canStand(t *testing.T, ahead string) {
	t.Helper()
	if a := answerToText(ahead); a.errno == api.ErrText && a.at != len(ahead) {
		t.Errorf("P7: of %q: %v, though it can stand ahead of what cannot", ahead, a)
	}
}

// P10 asks for texts that are not too long: others are printed, but cannot be assembled.
func TestAssembleOfLongPrint(t *testing.T) {
	bytes, _ := build(t, head+oneFunc+"0a [ 01 [ 00 "+many(50, "03 40")+many(4000, "01")+many(51, "0b")+"] ]")
	printed, errno, _ := loom.Print(bytes)
	if errno != api.OK || len(printed) <= api.MaxText {
		t.Fatalf("%d, %d", errno, len(printed))
	}
	if got := answerToText(printed); got != (textAnswer{errno: api.ErrLong}) {
		t.Errorf("P7: %v", got)
	}
}

// P1: beside an error there is nothing but the place; the other calls end, too.
func TestCallsEnd(t *testing.T) {
	whole, _ := build(t, head+sample)
	for _, s := range append(odd(), whole) {
		for _, call := range []func(string) (string, api.Errno, int){loom.Pack, loom.Print, loom.Assemble} {
			got, errno, at := call(s)
			if errno != api.OK && got != "" || errno == api.OK && at != 0 {
				t.Errorf("P1: of %x: %q, %d, %d", s, got, errno, at)
			}
		}
		made, errno, at := loom.New(s)
		if errno != api.OK && made != nil || errno == api.OK && at != 0 {
			t.Errorf("P1: New(%x): %v, %d, %d", s, made, errno, at)
		}
	}
}

// P2: what is answered hangs on the bytes, or the text, alone, whatever was asked ahead, or is asked at the same time.
func TestAnswersHangOnArguments(t *testing.T) {
	hangOnArguments(t, changed(t), answerTo)
	hangOnArguments(t, changedText, answerToText)
}

func hangOnArguments[A comparable](t *testing.T, arguments iter.Seq[string], ask func(string) A) {
	var all []string
	for one := range arguments {
		if len(all)%7 == 0 || len(one)%5 == 0 {
			all = append(all, one)
		}
	}
	first := make([]A, len(all))
	for i, one := range all {
		first[i] = ask(one)
	}
	for i := len(all) - 1; i >= 0; i-- {
		if again := ask(all[i]); again != first[i] {
			t.Errorf("P2: of %x: %v, then %v", all[i], first[i], again)
		}
	}
	var group sync.WaitGroup
	for worker := range 4 {
		group.Add(1)
		go func() {
			defer group.Done()
			for i := worker; i < len(all); i += 3 {
				if again := ask(strings.Clone(all[i])); again != first[i] {
					t.Errorf("P2: of %x: %v, then %v", all[i], first[i], again)
				}
			}
		}()
	}
	group.Wait()
}
