package code

import (
	"slices"
	"strings"
	"testing"

	"loom/fault"
	"loom/scan"
	"loom/write"
)

// The iterator tells each instruction with what stands behind it, up to the code's own end.
func TestInstructions(t *testing.T) {
	const bytes = "\x02\x7f\x03\x05\x0e\x01\x02\x03\x0b\x0b\x28\x02\x81\x00\x11\x04\x00\x41\x7f\x42\x80\x7f\x0b\x0b"
	want := []Instruction{
		{At: 0, Behind: 2, Word: Block, Gives: []Kind{I32}},
		{At: 2, Behind: 4, Word: Loop, Typed: true, Number: scan.Number{Value: 5, At: 3}},
		{At: 4, Behind: 8, Word: BrTable, Labels: []scan.Number{{Value: 2, At: 6}}, Number: scan.Number{Value: 3, At: 7}},
		{At: 8, Behind: 9, Word: End},
		{At: 9, Behind: 10, Word: End},
		{At: 10, Behind: 14, Word: I32Load, Align: 2, Number: scan.Number{Value: 1, At: 12}},
		{At: 14, Behind: 17, Word: CallIndirect, Number: scan.Number{Value: 4, At: 15}},
		{At: 17, Behind: 19, Word: I32Const, Value: -1},
		{At: 19, Behind: 22, Word: I64Const, Value: -128},
		{At: 22, Behind: 23, Word: End},
	}
	all := Instructions(scan.New(bytes))
	for range 2 { // it can be gone through again
		got := slices.Collect(all)
		if !slices.EqualFunc(got, want, same) {
			t.Errorf("got %v, want %v", got, want)
		}
	}
}

func same(a, b Instruction) bool {
	return a.At == b.At && a.Behind == b.Behind && a.Word == b.Word && a.Typed == b.Typed && slices.Equal(a.Gives, b.Gives) &&
		a.Align == b.Align && a.Number == b.Number && slices.Equal(a.Labels, b.Labels) && a.Value == b.Value
}

// Who has seen enough may stop, ahead of what could not stand there.
func TestStop(t *testing.T) {
	for in := range Instructions(scan.New("\x01\xff")) {
		if in.Word != Nop {
			t.Errorf("got %v", in)
		}
		break
	}
}

// What is written is read as the same instruction, and is as short as it can be.
func TestWrite(t *testing.T) {
	for bytes, want := range map[string]string{
		"\x02\x40\x0b": "", "\x03\x7f\x0b": "", "\x04\x7e\x0b": "", "\x02\x3f\x0b": "", "\x02\xc0\x00\x0b": "", "\x02\xff\xff\xff\xff\x0f\x0b": "", "\x02\x85\x80\x00\x0b": "\x02\x05\x0b",
		"\x0c\x80\x01": "", "\x0d\x81\x00": "\x0d\x01", "\x0e\x00\x00": "", "\x0e\x82\x00\x81\x00\x02\x83\x00": "\x0e\x02\x01\x02\x03",
		"\x28\x82\x00\x83\x00": "\x28\x02\x03", "\x3a\xff\xff\xff\xff\x0f\xff\xff\xff\xff\x0f": "", "\x11\x84\x00\x00": "\x11\x04\x00", "\x3f\x00": "", "\x40\x00": "",
		"\x41\xff\x7f": "\x41\x7f", "\x42\xc0\x00": "", "\x1a\x1b\x45\x8a\xa7\xac\xad": "",
	} {
		if want == "" {
			want = bytes
		}
		var w write.Writer
		for in := range Instructions(scan.New(bytes + "\x0b")) {
			in.Write(&w)
		}
		if got := w.All(); got != want+"\x0b" {
			t.Errorf("%x is written %x", bytes, got)
		}
	}
}

// Each byte that is an instruction has a word of its own, and no other byte has one.
func TestSpell(t *testing.T) {
	seen := map[string]bool{}
	for b := range 256 {
		word := Spell(byte(b))
		if (word != "") != known(byte(b)) || word != "" && seen[word] {
			t.Errorf("the byte %x is spelled %q", b, word)
		}
		seen[word] = true
		if found, ok := Words()[word]; ok != (word != "") || ok && found != byte(b) {
			t.Errorf("of the word %q the byte is %x", word, found)
		}
	}
	for kind, want := range map[Kind]string{I32: "i32", I64: "i64", Unknown: ""} {
		if got := kind.String(); got != want || KindOf(want) != kind {
			t.Errorf("the kind %x is %q", byte(kind), got)
		}
	}
	if KindOf("i33") != Unknown || KindOf("I32") != Unknown {
		t.Error("other words are kinds")
	}
}

// known tells whether a byte can stand where an instruction is asked for, in an if.
func known(word byte) (is bool) {
	defer func() {
		f, refused := recover().(fault.Fault)
		is = !refused || f.At != 2
	}()
	for in := range Instructions(scan.New("\x04\x40" + string([]byte{word}) + strings.Repeat("\x00", 5))) {
		if in.At == 2 {
			break
		}
	}
	return true
}

func TestUsualAlign(t *testing.T) {
	for word, want := range map[byte]uint32{I32Load: 2, I64Load: 3, I32Load8S: 0, I32Load8U: 0, I32Store: 2, I64Store: 3, I32Store8: 0} {
		if got := UsualAlign(word); got != want {
			t.Errorf("the usual align of %s is %d, want %d", Spell(word), got, want)
		}
	}
}
