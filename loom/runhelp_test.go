package loom_test

import (
	"slices"
	"testing"

	"loom/api"
	"loom/loom"
)

// bytesOf gives the bytes of a text that must be a module.
func bytesOf(t *testing.T, text string) string {
	t.Helper()
	bytes, errno, at := loom.Assemble(text)
	if errno != api.OK {
		t.Fatalf("Assemble(%s): %d, %d", text, errno, at)
	}
	return bytes
}

// made gives an instance of a text that must be a module, and one that can be made.
func made(t *testing.T, text string) *loom.Instance {
	t.Helper()
	i, errno, at := loom.New(bytesOf(t, text))
	if errno != api.OK || i == nil {
		t.Fatalf("New of %s: %v, %d, %d", text, i, errno, at)
	}
	return i
}

// alone gives a module of one function, which is exported as f.
func alone(function string) string { return among(function, "", "") }

// among gives a module whose first function is exported as f, with items ahead of the exports, and others behind that one.
func among(function, ahead, behind string) string {
	return "(module (func " + function + ") " + ahead + ` (export "f" (func 0)) ` + behind + ")"
}

func list(numbers ...int64) []int64 { return numbers }

// ends calls a function once: why it is broken off, what it costs, and its results.
func ends(t *testing.T, i *loom.Instance, name string, args []int64, why, cost int, results ...int64) {
	t.Helper()
	const fuel = 10000
	done, errno := i.Call(name, args, fuel)
	if errno != api.OK || done.Why != why || done.Left != fuel-cost || !slices.Equal(done.Results, results) {
		t.Errorf("Call(%q, %v, %d) = %v, %d, want why %d, %v, a cost of %d", name, args, fuel, done, errno, why, results, cost)
	}
}

// costs calls f of a text with each fuel up to its cost, and with more, each time on a new instance: with less it is spent, with more it comes to the same.
func costs(t *testing.T, text string, args []int64, why, cost int, results ...int64) {
	t.Helper()
	bytes := bytesOf(t, text)
	for _, fuel := range append(upTo(cost+2), api.MaxFuel) {
		i, errno, at := loom.New(bytes)
		if errno != api.OK {
			t.Fatalf("New of %s: %d, %d", text, errno, at)
		}
		want := api.Done{Why: why, Results: results, Left: fuel - cost}
		if fuel < cost {
			want = api.Done{Why: api.Spent}
		}
		done, errno := i.Call("f", args, fuel)
		if errno != api.OK || !sameDone(done, want) {
			t.Errorf("%s: f of %v with %d fuel = %v, %d, want %v", text, args, fuel, done, errno, want)
		}
	}
}

func upTo(n int) []int {
	var all []int
	for i := range n + 1 {
		all = append(all, i)
	}
	return all
}

func sameDone(a, b api.Done) bool {
	return a.Why == b.Why && a.Left == b.Left && slices.Equal(a.Results, b.Results)
}
