package write

import (
	"strings"
	"testing"

	"loom/scan"
)

// edges are numbers at which one more byte is needed, and some around them.
func edges() []int64 {
	all := []int64{0, 1 << 62, -1 << 63, 1<<63 - 1}
	for shift := range 63 {
		for near := int64(-2); near <= 2; near++ {
			all = append(all, 1<<shift+near, -1<<shift+near)
		}
	}
	return all
}

// What is written is read as the same number, and with one byte less it would not be.
func TestU(t *testing.T) {
	for _, n := range edges() {
		var w Writer
		w.U(uint32(n))
		r := scan.New(w.All())
		if got := r.U().Value; got != uint32(n) || !r.Done() {
			t.Errorf("U(%d) is written %x, read %d", uint32(n), w.All(), got)
		}
		if want := bytesFor(uint64(uint32(n)), 7); len(w.All()) != want {
			t.Errorf("U(%d) is written %x, want %d bytes", uint32(n), w.All(), want)
		}
	}
}

func TestS(t *testing.T) {
	for _, n := range edges() {
		var w Writer
		w.S(n)
		r := scan.New(w.All())
		if got := r.S(64); got != n || !r.Done() {
			t.Errorf("S(%d) is written %x, read %d", n, w.All(), got)
		}
		// The sign needs one bit more than the number, or than what is left of it.
		size := uint64(n)
		if n < 0 {
			size = ^size
		}
		if want := bytesFor(size, 6); len(w.All()) != want {
			t.Errorf("S(%d) is written %x, want %d bytes", n, w.All(), want)
		}
	}
}

// bytesFor tells how many bytes a number needs if there is room for so many bits in the last one, and for 7 in the others.
func bytesFor(n uint64, last int) int {
	many := 1
	for ; n>>last > 0; n >>= 7 {
		many++
	}
	return many
}

func TestParts(t *testing.T) {
	var w Writer
	w.Bytes(1, 2)
	w.Text("ab")
	w.Sized("cde")
	w.Within(func(inner *Writer) {
		List(inner, []string{"f", ""}, (*Writer).Sized)
	})
	if got, want := w.All(), "\x01\x02ab\x03cde\x04\x02\x01f\x00"; got != want {
		t.Errorf("got %x, want %x", got, want)
	}
	var long Writer
	long.Sized(strings.Repeat("x", 300))
	if got, want := long.All(), "\xac\x02"+strings.Repeat("x", 300); got != want {
		t.Errorf("got %x, want %x", got, want)
	}
}
