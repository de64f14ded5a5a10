package code

import (
	"slices"
	"testing"

	"loom/scan"
)

// The iterator tells each instruction with what stands behind it, up to the code's own end.
func TestInstructions(t *testing.T) {
	const bytes = "\x02\x7f\x03\x05\x0e\x01\x02\x03\x0b\x0b\x28\x02\x81\x00\x11\x04\x00\x41\x7f\x42\x80\x7f\x0b\x0b"
	want := []Instruction{
		{At: 0, Behind: 2, Word: Block, Gives: []Kind{I32}},
		{At: 2, Behind: 4, Word: Loop, Typed: true, Number: scan.Number{Value: 5, At: 3}},
		{At: 4, Behind: 8, Word: BrTable, Labels: []scan.Number{{Value: 2, At: 6}}, Number: scan.Number{Value: 3, At: 7}},
		{At: 8, Behind: 9, Word: End},
		{At: 9, Behind: 10, Word: End},
		{At: 10, Behind: 14, Word: I32Load, Align: 2, Number: scan.Number{Value: 1, At: 12}},
		{At: 14, Behind: 17, Word: CallIndirect, Number: scan.Number{Value: 4, At: 15}},
		{At: 17, Behind: 19, Word: I32Const, Value: -1},
		{At: 19, Behind: 22, Word: I64Const, Value: -128},
		{At: 22, Behind: 23, Word: End},
	}
	all := Instructions(scan.New(bytes))
	for range 2 { // it can be gone through again
		got := slices.Collect(all)
		if !slices.EqualFunc(got, want, same) {
			t.Errorf("got %v, want %v", got, want)
		}
	}
}

func same(a, b Instruction) bool {
	return a.At == b.At && a.Behind == b.Behind && a.Word == b.Word && a.Typed == b.Typed && slices.Equal(a.Gives, b.Gives) &&
		a.Align == b.Align && a.Number == b.Number && slices.Equal(a.Labels, b.Labels) && a.Value == b.Value
}

// Who has seen enough may stop, ahead of what could not stand there.
func TestStop(t *testing.T) {
	for in := range Instructions(scan.New("\x01\xff")) {
		if in.Word != Nop {
			t.Errorf("got %v", in)
		}
		break
	}
}
