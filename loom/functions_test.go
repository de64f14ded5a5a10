package loom_test

import (
	"math"
	"testing"

	"loom/api"
	"loom/loom"
)

// P9: params go in, and results come out, in their order; what lies below the params stays.
func TestFunctionsCall(t *testing.T) {
	const swap = " (func (param i32 i64) (result i64 i32) (local i32) local.get 1 local.get 0)"
	costs(t, "(module (func (result i32 i64 i32) i32.const 9 i32.const 3 i64.const 4 call 1)"+swap+` (export "f" (func 0)))`, nil, 0, 6, 9, 4, 3)
	costs(t, "(module (func (result i32 i64 i32) i32.const 9 block (result i64 i32) i64.const 8 i32.const 3 i64.const 4 call 1 br 0 end)"+swap+` (export "f" (func 0)))`, nil, 0, 9, 9, 4, 3)
	// A jump in one function leaves the other's blocks and values as they are.
	costs(t, `(module (func (result i32) block (result i32) i32.const 1 loop call 1 end i32.const 2 i32.add end) (func block block i32.const 7 br 2 end end) (export "f" (func 0)))`, nil, 0, 12, 3)
	// Each call of a function has locals of its own.
	const fib = `(module (func $fib (param $n i32) (result i32) (local $x i32) (if (i32.lt_s (local.get $n) (i32.const 2)) (then (return (local.get $n)))) (local.set $x (call $fib (i32.sub (local.get $n) (i32.const 1)))) (i32.add (call $fib (i32.sub (local.get $n) (i32.const 2))) (local.get $x))) (export "f" (func 0)))`
	costs(t, fib, list(1), 0, 6, 1)
	costs(t, fib, list(2), 0, 4+5+6+2*6, 1)
	i := made(t, fib)
	done, errno := i.Call("f", list(12), api.MaxFuel)
	if errno != api.OK || done.Why != 0 || len(done.Results) != 1 || done.Results[0] != 144 {
		t.Errorf("P9: fib of 12 = %v, %d", done, errno)
	}
}

// indirect is a module with a table of four: empty, a function of each type, one of a third type that is as the first one, empty.
const indirect = `(module (type $a (func (result i32))) (type $b (func (param i32) (result i32))) (type $c (func (result i32)))
(func (param i32) (result i32) local.get 0 call_indirect (type $a))
(func (param i32) (result i32) i32.const 40 local.get 0 call_indirect (type $b))
(func $x (type $a) i32.const 7) (func $y (type $b) local.get 0 i32.const 1 i32.add) (func $z (type $c) i32.const 8)
(table 5 20) (export "f" (func 0)) (export "b" (func 1)) (elem (i32.const 1) $y $y $y) (elem (i32.const 1) $x) (elem (i32.const 5)) (elem (i32.const 3) $z))`

// P9: call_indirect calls what stands in the table; a place that is empty or outside, and a function of another type, break it off.
func TestCallIndirect(t *testing.T) {
	costs(t, indirect, list(1), 0, 3, 7)
	costs(t, indirect, list(1<<32+1), 0, 3, 7)
	costs(t, indirect, list(2), api.Other, 2)
	// A type is its kinds: another one of the same kinds is no other.
	costs(t, indirect, list(3), 0, 3, 8)
	for _, place := range list(0, 4, 5, 6, 19, 20, 1<<31, -1) {
		costs(t, indirect, list(place), api.Empty, 2)
	}
	i := made(t, indirect)
	ends(t, i, "b", list(2), 0, 6, 41)
	ends(t, i, "b", list(1), api.Other, 3)
	ends(t, i, "b", list(0), api.Empty, 3)
}

// P9: a call, when 50 functions are under way, is broken off, but not ahead of Empty and Other.
func TestDeep(t *testing.T) {
	const down = `(module (func $down (param i32) local.get 0 if local.get 0 i32.const 1 i32.sub call $down end) (export "f" (func 0)))`
	costs(t, down, list(api.MaxCalls-1), 0, (api.MaxCalls-1)*7+2)
	costs(t, down, list(api.MaxCalls), api.Deep, api.MaxCalls*6)
	costs(t, alone("call 0"), nil, api.Deep, api.MaxCalls)
	costs(t, `(module (func call 1) (func call 0) (export "f" (func 0)))`, nil, api.Deep, api.MaxCalls)
	// Those that have ended are not under way.
	costs(t, `(module (func (local i32) loop call 1 local.get 0 i32.const 1 i32.add local.tee 0 i32.const 60 i32.lt_s br_if 0 end) (func) (export "f" (func 0)))`, nil, 0, 1+60*8+1)
	// What the last of 50 finds in the table: a function, one of another type, none.
	i := made(t, `(module (type (func (param i32)))
(func (param i32) local.get 0 i32.const -1 i32.add local.tee 0 i32.eqz if i32.const 0 global.get 0 call_indirect (type 0) end local.get 0 call 0)
(func (param i32) local.get 0 global.set 0) (func)
(table 3) (global (mut i32) (i32.const 0)) (export "f" (func 0)) (export "place" (func 1)) (elem (i32.const 0) 1 2))`)
	for place, why := range []int{api.Deep, api.Other, api.Empty} {
		ends(t, i, "place", list(int64(place)), 0, 2)
		ends(t, i, "f", list(api.MaxCalls), why, (api.MaxCalls-1)*8+9)
	}
}

// P9: the errors of Call, in their order, and with nothing beside them; nothing changes.
func TestCallErrors(t *testing.T) {
	i := made(t, `(module (func (param i32) (result i32) global.get 0 i32.const 1 i32.add global.set 0 global.get 0) (func) (table 1) (memory 1) (global (mut i32) (i32.const 5)) (export "f" (func 0)) (export "n" (func 1)) (export "t" (table 0)) (export "m" (memory 0)) (export "g" (global 0)) (export "" (func 0)))`)
	for _, name := range []string{"x", "F", "f ", "ff", "t", "m", "g", "\x00", "é"} {
		for _, fuel := range []int{0, 10, -1, api.MaxFuel + 1} {
			refusesCall(t, i, name, list(1), fuel, api.ErrName)
		}
	}
	for _, args := range [][]int64{nil, {}, {1, 2}, make([]int64, 1000)} {
		refusesCall(t, i, "f", args, 10, api.ErrArgs)
	}
	for _, fuel := range []int{-1, api.MaxFuel + 1, math.MinInt, math.MaxInt} {
		refusesCall(t, i, "f", list(1), fuel, api.ErrArgs)
		refusesCall(t, i, "n", nil, fuel, api.ErrArgs)
	}
	refusesCall(t, i, "n", list(0), 10, api.ErrArgs)
	if n, errno := i.Global("g"); n != 5 || errno != api.OK {
		t.Errorf("P1: a call that is refused changes the global: %d, %d", n, errno)
	}
	ends(t, i, "", list(1), 0, 5, 6)
	ends(t, i, "n", nil, 0, 0)
}

func refusesCall(t *testing.T, i *loom.Instance, name string, args []int64, fuel int, want api.Errno) {
	t.Helper()
	done, errno := i.Call(name, args, fuel)
	if errno != want || done.Why != 0 || done.Left != 0 || len(done.Results) > 0 {
		t.Errorf("P9: Call(%q, %v, %d) = %v, %d, want %d", name, args, fuel, done, errno, want)
	}
}

// P9: Spent goes ahead of what the instruction would be broken off by; fuel may be from 0 to 100000.
func TestSpent(t *testing.T) {
	i := made(t, `(module (func loop br 0 end) (func unreachable) (func) (export "loop" (func 0)) (export "stop" (func 1)) (export "none" (func 2)))`)
	for _, c := range []struct {
		name string
		fuel int
		want api.Done
	}{
		{"loop", 0, api.Done{Why: api.Spent}}, {"loop", 1, api.Done{Why: api.Spent}}, {"loop", api.MaxFuel, api.Done{Why: api.Spent}},
		{"stop", 0, api.Done{Why: api.Spent}}, {"stop", 1, api.Done{Why: api.Stop}}, {"stop", api.MaxFuel, api.Done{Why: api.Stop, Left: api.MaxFuel - 1}},
		{"none", 0, api.Done{}}, {"none", api.MaxFuel, api.Done{Left: api.MaxFuel}},
	} {
		if done, errno := i.Call(c.name, nil, c.fuel); errno != api.OK || !sameDone(done, c.want) {
			t.Errorf("P9: Call(%s, %d) = %v, %d, want %v", c.name, c.fuel, done, errno, c.want)
		}
	}
}

// P9: what was done till a call is broken off stays done, and nothing else; the instance can be called again.
func TestBrokenOff(t *testing.T) {
	const text = `(module (func (param i32) i32.const 5 global.set 0 i32.const 1 i32.const 7 i32.store8 i32.const 1 memory.grow drop call 1 i32.const 6 global.set 0)
(func i64.const -9 global.set 1 unreachable) (memory 1) (global (mut i32) (i32.const 0)) (global (mut i64) (i64.const 0)) (export "f" (func 0)) (export "g" (global 0)) (export "h" (global 1)))`
	for fuel, want := range []struct {
		why, g, h, pages int
		bytes            string
	}{
		{api.Spent, 0, 0, 1, "\x00\x00"}, {api.Spent, 0, 0, 1, "\x00\x00"}, {api.Spent, 5, 0, 1, "\x00\x00"}, {api.Spent, 5, 0, 1, "\x00\x00"}, {api.Spent, 5, 0, 1, "\x00\x00"}, {api.Spent, 5, 0, 1, "\x00\x07"},
		{api.Spent, 5, 0, 1, "\x00\x07"}, {api.Spent, 5, 0, 2, "\x00\x07"}, {api.Spent, 5, 0, 2, "\x00\x07"}, {api.Spent, 5, 0, 2, "\x00\x07"}, {api.Spent, 5, 0, 2, "\x00\x07"}, {api.Spent, 5, -9, 2, "\x00\x07"}, {api.Stop, 5, -9, 2, "\x00\x07"}, {api.Stop, 5, -9, 2, "\x00\x07"},
	} {
		i := made(t, text)
		done, _ := i.Call("f", list(1), fuel)
		g, _ := i.Global("g")
		h, _ := i.Global("h")
		bytes, _ := i.Bytes(0, 2)
		if done.Why != want.why || len(done.Results) != 0 || g != int64(want.g) || h != int64(want.h) || i.Pages() != want.pages || bytes != want.bytes {
			t.Errorf("P9: with %d fuel: %v, %d, %d, %d, %x, want %v", fuel, done, g, h, i.Pages(), bytes, want)
		}
	}
	i := made(t, `(module (func (param i32) (result i32) global.get 0 i32.const 1 i32.add global.set 0 i32.const 12 local.get 0 i32.div_s) (global (mut i32) (i32.const 0)) (export "f" (func 0)) (export "g" (global 0)))`)
	ends(t, i, "f", list(0), api.Nought, 7)
	ends(t, i, "f", list(5), 0, 7, 2)
	ends(t, i, "f", list(0), api.Nought, 7)
	if g, _ := i.Global("g"); g != 3 {
		t.Errorf("P9: the global is %d", g)
	}
}
