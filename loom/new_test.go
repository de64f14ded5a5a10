package loom_test

import (
	"strings"
	"testing"

	"loom/api"
	"loom/loom"
)

// news asks what New tells of a text.
func news(t *testing.T, text string, want api.Errno, to int) {
	t.Helper()
	i, errno, at := loom.New(bytesOf(t, text))
	if errno != want || at != to || (i != nil) != (want == api.OK) {
		t.Errorf("P8: New of %s = %v, %d, %d, want %d, %d", text, i != nil, errno, at, want, to)
	}
}

// P8: New has the errors of Check, ahead of its own.
func TestNewOfWhatDoesNotFit(t *testing.T) {
	for _, text := range []string{
		"(module (func i32.const 1))", "(module (func br 1))", "(module (memory 17))", "(module (func) (start 1))", "(module (memory 1) (data (i64.const 0) \"\"))",
		"(module (func unreachable drop i32.const 1) (table 1) (memory 1) (start 0) (elem (i32.const 9)) (data (i32.const 99) \"\"))",
	} {
		bytes := bytesOf(t, text)
		errno, at := loom.Check(bytes)
		if errno == api.OK {
			t.Fatalf("%s fits", text)
		}
		news(t, text, errno, at)
	}
	for _, bytes := range odd() {
		wantErrno, wantAt := loom.Check(bytes)
		if i, errno, at := loom.New(bytes); i != nil || errno != wantErrno || at != wantAt {
			t.Errorf("P8: New(%x) = %v, %d, %d, want %d, %d", bytes, i, errno, at, wantErrno, wantAt)
		}
	}
}

// P8: elements and data must lie within what there is at first; what their constant tells has no sign.
func TestPlaces(t *testing.T) {
	const f = "(module (func) "
	for _, c := range []struct {
		text  string
		errno api.Errno
		at    int
	}{
		{"(module)", api.OK, 0},
		{f + "(table 2) (elem (i32.const 0) 0 0))", api.OK, 0}, {f + "(table 2) (elem (i32.const 2)))", api.OK, 0}, {f + "(table 0) (elem (i32.const 0)))", api.OK, 0}, {f + "(table 20) (elem (i32.const 19) 0))", api.OK, 0},
		{f + "(table 2) (elem (i32.const 1) 0 0))", api.ErrPlace, 0}, {f + "(table 2) (elem (i32.const 3)))", api.ErrPlace, 0}, {f + "(table 2) (elem (i32.const -1)))", api.ErrPlace, 0}, {f + "(table 2) (elem (i32.const -1) 0))", api.ErrPlace, 0}, {f + "(table 2) (elem (i32.const -2147483648)))", api.ErrPlace, 0}, {f + "(table 0) (elem (i32.const 0) 0))", api.ErrPlace, 0},
		{f + "(table 2 9) (elem (i32.const 2) 0))", api.ErrPlace, 0}, // the greatest number does not count
		{f + "(table 2) (elem (i32.const 0) 0 0) (elem (i32.const 1) 0) (elem (i32.const 2) 0) (elem (i32.const 3)))", api.ErrPlace, 2},
		{"(module (memory 1) (data (i32.const 60) \"abcd\"))", api.OK, 0}, {"(module (memory 1) (data (i32.const 64)))", api.OK, 0}, {"(module (memory 0) (data (i32.const 0) \"\"))", api.OK, 0},
		{"(module (memory 1) (data (i32.const 61) \"abcd\"))", api.ErrPlace, 0}, {"(module (memory 1) (data (i32.const 65)))", api.ErrPlace, 0}, {"(module (memory 1) (data (i32.const -1)))", api.ErrPlace, 0}, {"(module (memory 1) (data (i32.const -4) \"abcd\"))", api.ErrPlace, 0}, {"(module (memory 0) (data (i32.const 0) \"a\"))", api.ErrPlace, 0}, {"(module (memory 1 2) (data (i32.const 64) \"a\"))", api.ErrPlace, 0},
		{"(module (memory 1) (data (i32.const 0) \"a\") (data (i32.const 0) \"b\") (data (i32.const 64) \"c\") (data (i32.const -1) \"d\"))", api.ErrPlace, 2},
		// Elements are counted by themselves, and all of them go ahead of data; both go ahead of the start.
		{f + "(table 2) (memory 1) (elem (i32.const 2)) (elem (i32.const 3)) (data (i32.const 65)))", api.ErrPlace, 1},
		{f + "(table 2) (memory 1) (elem (i32.const 2)) (elem (i32.const 2)) (data (i32.const 65)))", api.ErrPlace, 0},
		{"(module (func unreachable) (table 2) (memory 1) (start 0) (elem (i32.const 2)) (data (i32.const 1)) (data (i32.const 65)))", api.ErrPlace, 1},
		{"(module (func i32.const 1 memory.grow drop) (memory 1) (start 0) (data (i32.const 64) \"a\"))", api.ErrPlace, 0},
	} {
		news(t, c.text, c.errno, c.at)
	}
}

// P8: the start is run with 1000 fuel; if it is broken off, there is no instance, and why is told.
func TestStart(t *testing.T) {
	for _, c := range []struct {
		text string
		why  int
	}{
		{"(module (func) (start 0))", 0}, {"(module (func unreachable) (func) (start 1))", 0},
		{"(module (func unreachable) (start 0))", api.Stop}, {"(module (func i32.const 1 i32.const 0 i32.div_u drop) (start 0))", api.Nought}, {"(module (func i64.const -9223372036854775808 i64.const -1 i64.div_s drop) (start 0))", api.Over},
		{"(module (func i32.const 64 i32.load8_u drop) (memory 1) (start 0))", api.Bounds}, {"(module (func i32.const 1 call_indirect) (table 2) (start 0) (elem (i32.const 0) 0))", api.Empty}, {"(module (func i32.const 0 call_indirect (result i32) drop) (table 2) (start 0) (elem (i32.const 0) 0))", api.Other},
		{"(module (func call 0) (start 0))", api.Deep}, {"(module (func loop br 0 end) (start 0))", api.Spent},
		{"(module (func " + strings.Repeat("nop ", 1000) + ") (start 0))", 0}, {"(module (func " + strings.Repeat("nop ", 1001) + ") (start 0))", api.Spent}, {"(module (func " + strings.Repeat("nop ", 1000) + " unreachable) (start 0))", api.Spent},
	} {
		if c.why == 0 {
			news(t, c.text, api.OK, 0)
		} else {
			news(t, c.text, api.ErrStart, c.why)
		}
	}
}

// P8: what there is at first, and behind the start: it finds elements and data there, and what it does stays.
func TestAtFirst(t *testing.T) {
	i := made(t, `(module
(func i32.const 2 i32.const 0 i32.load8_u i32.store8 i32.const 1 memory.grow drop i32.const 0 call_indirect)
(func global.get 0 i32.const 1 i32.add global.set 0)
(table 1) (memory 1) (global (mut i32) (i32.const 41)) (global i64 (i64.const -1)) (export "g" (global 0)) (export "h" (global 1)) (start 0)
(elem (i32.const 0) 0) (elem (i32.const 0) 1) (data (i32.const 0) "abc" "def") (data (i32.const 3) "xy"))`)
	g, _ := i.Global("g")
	h, _ := i.Global("h")
	if g != 42 || h != -1 || i.Pages() != 2 {
		t.Errorf("P8: %d, %d, %d", g, h, i.Pages())
	}
	stands(t, i, 0, "abaxyf"+strings.Repeat("\x00", 2*api.Page-6))
}
