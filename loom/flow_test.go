package loom_test

import (
	"testing"

	"loom/api"
)

// flow is a function, what it is called with, and what it comes to.
type flow struct {
	function  string
	args      []int64
	why, cost int
	results   []int64
}

func askFlows(t *testing.T, all ...flow) {
	t.Helper()
	for _, c := range all {
		costs(t, alone(c.function), c.args, c.why, c.cost, c.results...)
	}
}

// P9: each instruction that is come to costs one, block, loop and end too; the code's own end, and what is jumped over, do not.
func TestCosts(t *testing.T) {
	askFlows(t,
		flow{"", nil, 0, 0, nil},
		flow{"nop", nil, 0, 1, nil},
		flow{"i32.const 1 drop", nil, 0, 2, nil},
		flow{"nop unreachable nop", nil, api.Stop, 2, nil},
		flow{"(result i32 i64 i32 i64) i32.const 1 i64.const 2 i32.const 3 i64.const 4", nil, 0, 4, list(1, 2, 3, 4)},
		flow{"block end", nil, 0, 2, nil},
		flow{"loop end", nil, 0, 2, nil},
		flow{"block nop loop nop end end", nil, 0, 6, nil},
		flow{"block br 0 nop nop end nop", nil, 0, 3, nil},
		flow{"block block br 1 nop end nop end nop", nil, 0, 4, nil},
		flow{"block block br 0 end nop end", nil, 0, 5, nil},
		flow{"loop block br 0 nop end end", nil, 0, 4, nil},
		flow{"block loop br 1 end end nop", nil, 0, 4, nil},
		flow{"(param i32) loop local.get 0 i32.const 1 i32.sub local.tee 0 br_if 0 end", list(3), 0, 1 + 3*5 + 1, nil},
		flow{"(param i32) loop block local.get 0 i32.const 1 i32.sub local.tee 0 br_if 1 end end", list(3), 0, 1 + 3*6 + 2, nil},
		flow{"br 0 nop", nil, 0, 1, nil},
		flow{"block loop br 2 end end nop", nil, 0, 3, nil},
		flow{"return nop", nil, 0, 1, nil},
		flow{"block loop block return end end end nop", nil, 0, 4, nil},
	)
}

// P9: what lies below what the label takes, within its block, is thrown away, but not what lies below the block.
func TestWhatIsTakenAlong(t *testing.T) {
	askFlows(t,
		flow{"(result i32) i32.const 5 i32.const 6 return", nil, 0, 3, list(6)},
		flow{"(result i32) i64.const 5 block i64.const 7 i32.const 6 return end unreachable", nil, 0, 5, list(6)},
		flow{"(result i32 i64) i64.const 5 block i32.const 6 i64.const 7 br 1 end unreachable", nil, 0, 5, list(6, 7)},
		flow{"(result i32) i32.const 9 block i32.const 7 i64.const 8 br 0 end", nil, 0, 5, list(9)},
		flow{"(result i32 i32 i64) i32.const 9 block (result i32 i64) i64.const 7 i32.const 8 i64.const 6 br 0 end", nil, 0, 6, list(9, 8, 6)},
		flow{"(result i32 i32) i32.const 1 block (result i32) i32.const 2 block (result i32) i32.const 3 i32.const 4 br 1 end drop end", nil, 0, 7, list(1, 4)},
		flow{"(result i32 i32) i32.const 1 block (result i32) i32.const 2 block (result i32) i32.const 3 i32.const 4 br 0 end i32.add end", nil, 0, 9, list(1, 6)},
		flow{"(result i32 i32) i32.const 1 i32.const 2 block (param i32) (result i32) i32.const 3 br 0 end", nil, 0, 5, list(1, 3)},
		// To a loop goes what it takes, not what it gives.
		flow{"(param i32) (result i64 i32) i64.const 9 local.get 0 loop (param i32) (result i32) local.set 0 i64.const 3 local.get 0 i32.const 1 i32.sub local.tee 0 local.get 0 br_if 0 local.set 0 drop local.get 0 end", list(3), 0, 3 + 3*8 + 4, list(9, 0)},
		flow{"(param i32) (result i64 i32) i64.const 9 loop (result i32) i32.const 5 i32.const 1 local.get 0 i32.sub local.tee 0 br_if 0 end", list(0), 0, 2 + 2*6 + 1, list(9, 5)},
	)
}

// P9: an if goes on behind its word, its else, or its end; an else that is come to goes on behind the end.
func TestIf(t *testing.T) {
	const zero, other = 1 << 32, -1
	askFlows(t,
		flow{"(param i32) local.get 0 if nop end nop", list(other), 0, 5, nil},
		flow{"(param i32) local.get 0 if nop end nop", list(zero), 0, 3, nil},
		flow{"(param i32) local.get 0 if nop else nop nop end", list(other), 0, 4, nil},
		flow{"(param i32) local.get 0 if nop else nop nop end", list(zero), 0, 5, nil},
		flow{"(param i32) local.get 0 if else end", list(other), 0, 3, nil},
		flow{"(param i32) local.get 0 if else end", list(zero), 0, 3, nil},
		flow{"(param i32) local.get 0 if br 0 else br 1 end nop", list(other), 0, 4, nil},
		flow{"(param i32) local.get 0 if br 0 else br 1 end nop", list(zero), 0, 3, nil},
		flow{"(param i32) local.get 0 if nop else br 0 nop end nop", list(zero), 0, 4, nil},
		flow{"(param i32) block local.get 0 if br 1 else nop end nop end nop", list(other), 0, 5, nil},
		flow{"(param i32) block local.get 0 if else br 1 end nop end nop", list(other), 0, 7, nil},
		flow{"(param i32) (result i32) local.get 0 if (result i32) i32.const 1 else i32.const 2 end", list(other), 0, 4, list(1)},
		flow{"(param i32) (result i32) local.get 0 if (result i32) i32.const 1 else i32.const 2 end", list(zero), 0, 4, list(2)},
		flow{"(param i32) (result i32) i32.const 7 local.get 0 if (param i32) (result i32) i32.const 1 i32.add else i32.const 1 i32.sub end", list(other), 0, 6, list(8)},
		flow{"(param i32) (result i32) i32.const 7 local.get 0 if (param i32) (result i32) i32.const 1 i32.add else i32.const 1 i32.sub end", list(zero), 0, 6, list(6)},
		flow{"(param i32) (result i64 i32) i64.const 7 i32.const 8 local.get 0 if (param i64 i32) (result i64 i32) i32.const 1 i32.add end", list(other), 0, 7, list(7, 9)},
		flow{"(param i32) (result i64 i32) i64.const 7 i32.const 8 local.get 0 if (param i64 i32) (result i64 i32) i32.const 1 i32.add end", list(zero), 0, 4, list(7, 8)},
		flow{"(param i32) (result i32) local.get 0 if (result i32) i64.const 5 i32.const 1 br 0 else i64.const 5 i32.const 2 br 0 end", list(other), 0, 5, list(1)},
		flow{"(param i32) (result i32) local.get 0 if (result i32) i64.const 5 i32.const 1 br 0 else i64.const 5 i32.const 2 br 0 end", list(zero), 0, 5, list(2)},
		// One if in each half of the other: each finds its own else and end.
		flow{"(param i32 i32) local.get 0 if local.get 1 if nop else nop nop end else local.get 1 if else nop nop nop end end", list(1, 1), 0, 7, nil},
		flow{"(param i32 i32) local.get 0 if local.get 1 if nop else nop nop end else local.get 1 if else nop nop nop end end", list(1, 0), 0, 8, nil},
		flow{"(param i32 i32) local.get 0 if local.get 1 if nop else nop nop end else local.get 1 if else nop nop nop end end", list(0, 1), 0, 6, nil},
		flow{"(param i32 i32) local.get 0 if local.get 1 if nop else nop nop end else local.get 1 if else nop nop nop end end", list(0, 0), 0, 9, nil},
	)
}

// P9: br_if goes on behind itself if the number is 0, with all that lies there.
func TestBrIf(t *testing.T) {
	askFlows(t,
		flow{"(param i32) (result i32) block local.get 0 br_if 0 i32.const 1 return end i32.const 2", list(1), 0, 4, list(2)},
		flow{"(param i32) (result i32) block local.get 0 br_if 0 i32.const 1 return end i32.const 2", list(0), 0, 5, list(1)},
		flow{"(param i32) (result i32) i32.const 3 i32.const 4 local.get 0 br_if 0 i32.sub", list(0), 0, 5, list(-1)},
		flow{"(param i32) (result i32) i32.const 3 i32.const 4 local.get 0 br_if 0 i32.sub", list(-1), 0, 4, list(4)},
		flow{"(param i32) (result i32) i32.const 3 i32.const 4 local.get 0 br_if 0 i32.sub", list(1 << 32), 0, 5, list(-1)},
	)
}

// P9: br_table goes to the label whose number it is, without a sign, or to the last one.
func TestBrTable(t *testing.T) {
	const three = "(param i32) (result i32) block block block local.get 0 br_table 1 0 2 end i32.const 10 return end i32.const 20 return end i32.const 30"
	for n, want := range map[int64][2]int64{0: {20, 7}, 1: {10, 7}, 2: {30, 6}, 3: {30, 6}, 1 << 31: {30, 6}, -1: {30, 6}, 1 << 32: {20, 7}, 1<<32 + 1: {10, 7}} {
		costs(t, alone(three), list(n), 0, int(want[1]), want[0])
	}
	const carrying = "(param i32) (result i64 i32) i64.const 1 block (result i32) i64.const 2 i64.const 3 block (result i32) i64.const 4 i32.const 5 local.get 0 br_table 0 1 end i32.const 6 i32.add br 0 end"
	costs(t, alone(carrying), list(0), 0, 12, 1, 11)
	costs(t, alone(carrying), list(1), 0, 9, 1, 5)
	askFlows(t,
		flow{"(param i32) block block local.get 0 br_table 1 end nop end nop", list(0), 0, 5, nil},
		flow{"(param i32) block block local.get 0 br_table 1 end nop end nop", list(9), 0, 5, nil},
		flow{"(param i32) loop block local.get 0 i32.const 1 i32.add local.tee 0 br_table 1 1 1 0 end end nop", list(0), 0, 1 + 3*6 + 2, nil},
		flow{"(param i32) (result i32) i32.const 8 local.get 0 br_table 0 0", list(0), 0, 3, list(8)},
	)
}

// P9: select, and locals: those that are no params are 0 at first.
func TestLocals(t *testing.T) {
	askFlows(t,
		flow{"(param i32) (result i64) i64.const 10 i64.const 20 local.get 0 select", list(-1), 0, 4, list(10)},
		flow{"(param i32) (result i64) i64.const 10 i64.const 20 local.get 0 select", list(1 << 32), 0, 4, list(20)},
		flow{"(param i32) (result i32 i64 i32) (local i64 i32) local.get 0 local.get 1 local.get 2", list(5), 0, 3, list(5, 0, 0)},
		flow{"(param i32) (result i32 i64 i32) (local i64 i32) i32.const 7 local.set 2 i64.const 8 local.set 1 i32.const 9 local.set 0 local.get 0 local.get 1 local.get 2", list(5), 0, 9, list(9, 8, 7)},
		flow{"(param i32) (result i32 i32) (local i32) local.get 0 local.tee 1 local.get 1", list(5), 0, 3, list(5, 5)},
		flow{"(param i32 i64 i32 i64 i32 i64 i32 i64) (result i64 i32 i64 i32) local.get 7 local.get 0 local.get 3 local.get 4", list(1, 2, 3, 4, 5, 6, 7, 8), 0, 4, list(8, 1, 4, 5)},
	)
	// They are so at each call.
	i := made(t, alone("(result i32) (local i32) local.get 0 i32.const 1 i32.add local.tee 0"))
	ends(t, i, "f", nil, 0, 4, 1)
	ends(t, i, "f", nil, 0, 4, 1)
}

// P9: behind what nothing comes to, labels and blocks that never open change nothing of what is run.
func TestWhatNothingComesTo(t *testing.T) {
	askFlows(t,
		flow{"(result i32) block (result i32) i32.const 4 br 0 block loop i32.const 1 if i32.const 2 br 3 else br 0 end end end i32.add drop unreachable end", nil, 0, 3, list(4)},
		flow{"(param i32) (result i32) local.get 0 if i32.const 1 return unreachable else end i32.const 3", list(0), 0, 4, list(3)},
		flow{"(param i32) (result i32) local.get 0 if i32.const 1 return unreachable else end i32.const 3", list(1), 0, 4, list(1)},
		flow{"(result i32) i32.const 1 return select drop i32.const 2", nil, 0, 2, list(1)},
	)
}
