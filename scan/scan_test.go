package scan

import (
	"errors"
	"testing"

	"loom/api"
	"loom/fault"
)

// refused tells the place at which a reader gives up; -1 if it does not.
func refused(t *testing.T, read func()) (at int) {
	t.Helper()
	defer func() {
		caught := recover()
		if caught == nil {
			at = -1
			return
		}
		err, ok := caught.(error)
		var f fault.Fault
		if !ok || !errors.As(err, &f) || f.Errno != api.ErrBytes {
			t.Fatalf("given up with %v", caught)
		}
		at = f.At
	}()
	read()
	return -1
}

func TestU(t *testing.T) {
	for bytes, want := range map[string]uint32{
		"\x00": 0, "\x7f": 127, "\x80\x01": 128, "\xff\x00": 127, "\x80\x80\x80\x80\x00": 0, "\xe5\x8e\x26": 624485, "\xff\xff\xff\xff\x0f": 4294967295,
	} {
		r := New("x" + bytes + "y")
		r.Byte()
		if n := r.U(); n.Value != want || n.At != 1 || r.At() != 1+len(bytes) {
			t.Errorf("U of %x: %v, then at %d", bytes, n, r.At())
		}
	}
	for bytes, want := range map[string]int{"": 0, "\x80": 1, "\xff\xff\xff\xff\x10": 4, "\x80\x80\x80\x80\x80\x00": 4, "\x80\x80\x80\x80": 4} {
		r := New(bytes)
		if at := refused(t, func() { r.U() }); at != want {
			t.Errorf("U of %x is refused at %d, want %d", bytes, at, want)
		}
	}
}

func TestS(t *testing.T) {
	for _, c := range []struct {
		bits  int
		bytes string
		want  int64
	}{
		{32, "\x00", 0}, {32, "\x3f", 63}, {32, "\x40", -64}, {32, "\x7f", -1}, {32, "\xff\x7f", -1}, {32, "\xc0\x00", 64}, {32, "\x80\x7f", -128},
		{32, "\xff\xff\xff\xff\x07", 2147483647}, {32, "\x80\x80\x80\x80\x78", -2147483648}, {32, "\xff\xff\xff\xff\x7f", -1},
		{33, "\xff\xff\xff\xff\x0f", 4294967295}, {33, "\x80\x80\x80\x80\x70", -4294967296}, {33, "\x80\x80\x80\x80\x08", 2147483648},
		{64, "\xff\xff\xff\xff\x0f", 4294967295}, {64, "\xff\xff\xff\xff\x7f", -1},
		{64, "\xff\xff\xff\xff\xff\xff\xff\xff\xff\x00", 9223372036854775807}, {64, "\x80\x80\x80\x80\x80\x80\x80\x80\x80\x7f", -9223372036854775808},
	} {
		r := New(c.bytes + "y")
		if n := r.S(c.bits); n != c.want || r.At() != len(c.bytes) {
			t.Errorf("S%d of %x: %d, then at %d", c.bits, c.bytes, n, r.At())
		}
	}
}

// What is read within a size ends there, and must be all of it.
func TestWithin(t *testing.T) {
	for _, c := range []struct {
		bytes string
		takes int
		want  int
	}{
		{"\x02abc", 2, -1}, {"\x02abc", 1, 2}, {"\x02abc", 3, 3}, {"\x05abc", 3, 4}, {"\x05abc", 2, 3}, {"\x05abc", 4, 4}, {"\x00", 0, -1}, {"", 0, 0},
	} {
		r := New(c.bytes)
		take := func() {
			for range c.takes {
				r.Byte()
			}
		}
		if at := refused(t, func() { r.Within(take) }); at != c.want {
			t.Errorf("%d bytes within %x: refused at %d, want %d", c.takes, c.bytes, at, c.want)
		}
	}
	r := New("\x01ab")
	r.Within(func() { r.Byte() })
	if r.Done() || r.Byte() != 'b' || !r.Done() {
		t.Error("behind a size the reader does not go on")
	}
}
