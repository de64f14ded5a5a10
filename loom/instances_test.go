package loom_test

import (
	"slices"
	"strconv"
	"strings"
	"sync"
	"testing"

	"loom/api"
	"loom/loom"
)

// runnable is a module that has something of all that can be run.
const runnable = `(module (type $u (func (param i32) (result i32)))
(func $f (param i32 i64) (result i64 i32) (local i32)
  block (result i32) local.get 0 i32.const 3 i32.and local.tee 2 if (result i32) i32.const 5 loop (param i32) (result i32) local.get 2 i32.const 1 i32.sub local.tee 2 br_if 0 end else i32.const 7 br 1 end end
  local.set 2 local.get 1 local.get 2 i32.const 1 call_indirect (type $u) i64.extend_i32_s i64.mul local.get 2)
(func $g (type $u) block block local.get 0 br_table 0 1 0 end local.get 0 return end global.get 0 local.get 0 i32.add global.set 0 global.get 0 i32.const 2 i32.load offset=1 i32.xor)
(func $h (param i32) (result i32) local.get 0 i32.const 63 i32.rem_u i64.const 513 i64.store local.get 0 memory.grow i32.const 9 local.get 0 select)
(func $s i32.const 2 global.set 0)
(table 2) (memory 1 3) (global (mut i32) (i32.const 1)) (export "f" (func $f)) (export "g" (func $g)) (export "h" (func $h)) (export "n" (global 0)) (start $s) (elem (i32.const 1) $g) (data (i32.const 1) "\ffabc"))`

// state is all that can be seen of an instance from outside.
func state(i *loom.Instance) string {
	var b strings.Builder
	for _, name := range []string{"f", "g", "h", "n", "s"} {
		n, errno := i.Global(name)
		b.WriteString(strconv.FormatInt(n, 10) + " " + strconv.Itoa(int(errno)) + "; ")
	}
	bytes, _ := i.Bytes(0, i.Pages()*api.Page)
	return b.String() + bytes
}

// request is a call that is asked for.
type request struct {
	name string
	args []int64
	fuel int
}

// requests are calls of what may be there, some of which are refused, or broken off by Spent.
func requests() []request {
	var all []request
	for _, fuel := range []int{60, 7, 300} {
		for _, name := range []string{"f", "g", "h", "n"} {
			for _, args := range [][]int64{{}, {0}, {1}, {-1}, {62, -3}, {7, 1 << 40}} {
				all = append(all, request{name, args, fuel})
			}
		}
	}
	return all
}

// P10: whatever module fits, and is made, no call of it panics, or is broken off by what P9 does not name; two runs of the same on alike instances come to the same; so does that of the packed module. P1: what is refused changes nothing.
func TestRunsAlike(t *testing.T) {
	ran := 0
	for bytes := range changesOf(bytesOf(t, runnable)) {
		i, errno, at := loom.New(bytes)
		if checked, checkedAt := loom.Check(bytes); checked != api.OK && (errno != checked || at != checkedAt) {
			t.Errorf("P8: New(%x): %d, %d, but Check: %d, %d", bytes, errno, at, checked, checkedAt)
		}
		packed, _, _ := loom.Pack(bytes)
		if errno != api.OK {
			if i != nil || errno == api.ErrPlace && at > api.MaxData || errno == api.ErrStart && (at < api.Stop || at > api.Spent) {
				t.Errorf("P8: New(%x) = %v, %d, %d", bytes, i, errno, at)
			}
			continue
		}
		ran++
		alike, _, _ := loom.New(bytes)
		short, _, _ := loom.New(packed)
		for _, r := range requests() {
			askAlike(t, bytes, r, i, alike, short)
		}
	}
	if ran < 1000 {
		t.Errorf("only %d were run", ran)
	}
}

// askAlike asks the same of alike instances.
func askAlike(t *testing.T, bytes string, r request, alike ...*loom.Instance) {
	t.Helper()
	before := state(alike[0])
	done, errno := alike[0].Call(r.name, r.args, r.fuel)
	after := state(alike[0])
	switch {
	case errno != api.OK && (before != after || !sameDone(done, api.Done{}) || errno != api.ErrName && errno != api.ErrArgs):
		t.Errorf("P1: of %x: %v: %v, %d", bytes, r, done, errno)
	case done.Why < 0 || done.Why > api.Spent || done.Why != 0 && len(done.Results) > 0 || done.Why == api.Spent && done.Left != 0 || done.Left < 0 || done.Left > r.fuel || len(done.Results) > api.MaxResults:
		t.Errorf("P9, P10: of %x: %v: %v", bytes, r, done)
	}
	for _, other := range alike[1:] {
		again, againErrno := other.Call(r.name, r.args, r.fuel)
		if !sameDone(done, again) || errno != againErrno || state(other) != after {
			t.Errorf("P10: of %x: %v: %v, %d, and on an alike instance %v, %d", bytes, r, done, errno, again, againErrno)
		}
	}
}

// P10: with more fuel a call that was not broken off by Spent comes to the same, but for what is left.
func TestMoreFuel(t *testing.T) {
	bytes := bytesOf(t, runnable)
	for _, r := range requests() {
		enough := false
		var least api.Done
		var behind string
		for fuel := range 200 {
			i, _, _ := loom.New(bytes)
			done, errno := i.Call(r.name, r.args, fuel)
			switch {
			case errno != api.OK:
				continue
			case enough:
				least.Left++
				if !sameDone(done, least) || state(i) != behind {
					t.Errorf("P10: %s(%v) with %d fuel: %v, want %v", r.name, r.args, fuel, done, least)
				}
			case done.Why != api.Spent:
				enough, least, behind = true, done, state(i)
				if done.Left != 0 {
					t.Errorf("P9: %s(%v) with %d fuel has %d left, but was spent with less", r.name, r.args, fuel, done.Left)
				}
			}
		}
	}
}

// P2: what one instance does is not seen by another one, of the same bytes or not, nor by the other calls.
func TestInstancesAreAlone(t *testing.T) {
	bytes := bytesOf(t, runnable)
	first, _, _ := loom.New(bytes)
	untouched := state(first)
	second, _, _ := loom.New(bytes)
	for _, r := range requests() {
		second.Call(r.name, r.args, r.fuel)
	}
	third, _, _ := loom.New(bytes)
	if state(first) != untouched || state(third) != untouched || state(second) == untouched {
		t.Errorf("P2: %q, %q, %q, want %q", state(first), state(second), state(third), untouched)
	}
	var group sync.WaitGroup
	for range 8 {
		group.Add(1)
		go func() {
			defer group.Done()
			own, _, _ := loom.New(bytes)
			for _, r := range requests() {
				own.Call(r.name, r.args, r.fuel)
			}
			if state(own) != state(second) {
				t.Errorf("P2: %q, want %q", state(own), state(second))
			}
		}()
	}
	group.Wait()
}

// P2: the list that is handed in is neither changed nor kept, the one that comes out is the caller's, spare room and all.
func TestLists(t *testing.T) {
	i := made(t, alone("(param i32 i64) (result i64 i32) (local i64 i64) i32.const 3 local.set 0 local.get 1 local.get 0"))
	args := []int64{1 << 40, 2, 77, 78}
	kept := slices.Clone(args)
	var all [][]int64
	for range 4 {
		done, _ := i.Call("f", args[:2], 100)
		if !slices.Equal(done.Results, list(2, 3)) || !slices.Equal(args, kept) {
			t.Fatalf("P2: %v, %v", done, args)
		}
		all = append(all, done.Results)
	}
	for n, results := range all {
		whole := results[:cap(results)]
		for at := range whole {
			whole[at] = int64(100 + n)
		}
	}
	for n, results := range all {
		if !slices.Equal(results, list(int64(100+n), int64(100+n))) {
			t.Errorf("P2: the lists of two calls share room: %v", all)
		}
	}
	args[0], args[1] = 5, 6
	ends(t, i, "f", list(0, 9), 0, 4, 9, 3)
}
