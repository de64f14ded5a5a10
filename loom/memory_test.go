package loom_test

import (
	"math"
	"strings"
	"testing"

	"loom/api"
	"loom/loom"
)

// stands asks what stands in the memory from a place on.
func stands(t *testing.T, i *loom.Instance, from int, want string) {
	t.Helper()
	if got, errno := i.Bytes(from, len(want)); got != want || errno != api.OK {
		t.Errorf("P9: from %d on there stands %x, %d, want %x", from, got, errno, want)
	}
}

// P9: loads have the lowest byte first, load8 one byte, with a sign or without.
func TestLoads(t *testing.T) {
	const data = ` (data (i32.const 0) "\01\02\83\04\05\06\07\88\ff\7f\80")`
	for _, c := range []struct {
		word        string
		place, want int64
	}{
		{"i32.load", 0, 0x04830201}, {"i32.load", 1, 0x05048302}, {"i32.load", 4, 0x88070605 - 1<<32}, {"i32.load offset=3", 1, 0x88070605 - 1<<32}, {"i32.load offset=4 align=1", 0, 0x88070605 - 1<<32},
		{"i64.load", 0, -0x77f8f9fafb7cfdff}, {"i64.load", 1, -0x0077f8f9fafb7cfe}, {"i64.load offset=2", 0, 0x7fff880706050483}, {"i64.load align=1", 2, 0x7fff880706050483},
		{"i32.load8_s", 1, 2}, {"i32.load8_s", 2, -125}, {"i32.load8_s", 8, -1}, {"i32.load8_s", 9, 127}, {"i32.load8_s", 10, -128}, {"i32.load8_s offset=10", 0, -128},
		{"i32.load8_u", 1, 2}, {"i32.load8_u", 2, 131}, {"i32.load8_u", 8, 255}, {"i32.load8_u", 9, 127}, {"i32.load8_u", 10, 128}, {"i32.load8_u offset=10", 0, 128},
	} {
		kind := c.word[:3]
		costs(t, among("(param i32) (result "+kind+") local.get 0 "+c.word, "(memory 1)", data), list(c.place), 0, 2, c.want)
	}
}

// P9: stores have the lowest byte first, store8 has the lowest one, and they leave what stands beside them.
func TestStores(t *testing.T) {
	for _, c := range []struct {
		word     string
		place, n int64
		stands   string
	}{
		{"i32.store", 2, 0x04830201, "..\x01\x02\x83\x04......"}, {"i32.store", 0, -2, "\xfe\xff\xff\xff........"}, {"i32.store offset=5 align=1", 3, 1<<32 + 7, "........\x07\x00\x00\x00"},
		{"i64.store", 1, 0x0807060504030281, ".\x81\x02\x03\x04\x05\x06\x07\x08..."}, {"i64.store offset=4 align=2", 0, -2, "....\xfe\xff\xff\xff\xff\xff\xff\xff"},
		{"i32.store8", 0, 0x1234, "\x34..........."}, {"i32.store8 offset=11", 0, -1, "...........\xff"},
	} {
		i := made(t, among("(param i32 "+c.word[:3]+") local.get 0 local.get 1 "+c.word, "(memory 1)", `(data (i32.const 0) "............")`))
		ends(t, i, "f", list(c.place, c.n), 0, 3)
		stands(t, i, 0, c.stands+strings.Repeat("\x00", api.Page-len(c.stands)))
	}
}

// P9: the place, without a sign, and the offset, together, and the bytes from there on must lie within the memory.
func TestBounds(t *testing.T) {
	for word, size := range map[string]int64{"i32.load": 4, "i64.load": 8, "i32.load8_s": 1, "i32.load8_u": 1, "i32.store": 4, "i64.store": 8, "i32.store8": 1} {
		for _, c := range []struct {
			offset string
			place  int64
			why    int
		}{
			{"", 128 - size, 0}, {"", 128 - size + 1, api.Bounds}, {"", 127 + size, api.Bounds}, {"", 128, api.Bounds}, {"", -1, api.Bounds}, {"", -size, api.Bounds}, {"", 1 << 31, api.Bounds}, {"", 1<<32 + 5, 0},
			{" offset=100", 28 - size, 0}, {" offset=100", 28 - size + 1, api.Bounds}, {" offset=100", -100, api.Bounds}, {" offset=100", -1, api.Bounds},
			{" offset=128", 0, api.Bounds}, {" offset=4294967295", 0, api.Bounds}, {" offset=4294967295", 1, api.Bounds}, {" offset=4294967295", -1, api.Bounds}, {" offset=4294967288", 8, api.Bounds}, {" offset=2147483648", 1 << 31, api.Bounds},
		} {
			kind := word[:3]
			text := among("(param i32) local.get 0 "+word+c.offset+" drop", "(memory 2 4)", "")
			cost := 3 // the drop of what was loaded
			if strings.Contains(word, "store") {
				text = among("(param i32) local.get 0 "+kind+".const -1 "+word+c.offset, "(memory 2 4)", "")
			} else if c.why != 0 {
				cost = 2
			}
			i := made(t, text)
			ends(t, i, "f", list(c.place), c.why, cost)
			if c.why != 0 {
				stands(t, i, 0, strings.Repeat("\x00", 128))
			}
		}
	}
	// In a memory without pages there is no place.
	i := made(t, among("(param i32) (result i32) local.get 0 i32.load8_u", "(memory 0)", ""))
	ends(t, i, "f", list(0), api.Bounds, 2)
}

// P9: memory.size and memory.grow: as many pages as may be, all 0; else -1, and as many as before.
func TestGrow(t *testing.T) {
	const functions = `(module (func (param i32) (result i32) local.get 0 memory.grow) (func (result i32) memory.size) (func (param i32 i32) local.get 0 local.get 1 i32.store8) `
	const exports = ` (export "grow" (func 0)) (export "size" (func 1)) (export "put" (func 2)))`
	for _, c := range []struct {
		memory      string
		least, most int64
	}{{"(memory 0)", 0, 16}, {"(memory 1)", 1, 16}, {"(memory 16)", 16, 16}, {"(memory 0 0)", 0, 0}, {"(memory 1 3)", 1, 3}, {"(memory 3 3)", 3, 3}, {"(memory 0 16)", 0, 16}} {
		i := made(t, functions+c.memory+exports)
		pages := func(want int64) {
			t.Helper()
			ends(t, i, "size", nil, 0, 1, want)
			if got := i.Pages(); int64(got) != want {
				t.Errorf("P9: Pages() = %d, want %d", got, want)
			}
			stands(t, i, int(want)*api.Page, "")
			if _, errno := i.Bytes(int(want)*api.Page, 1); errno != api.ErrArgs {
				t.Errorf("P9: with %d pages there is a byte behind the end", want)
			}
		}
		pages(c.least)
		for _, more := range list(c.most-c.least+1, 17, -1, 1<<31) {
			ends(t, i, "grow", list(more), 0, 2, -1)
			pages(c.least)
		}
		ends(t, i, "grow", list(0), 0, 2, c.least)
		pages(c.least)
		for n := c.least; n < c.most; n++ {
			ends(t, i, "grow", list(1), 0, 2, n)
			pages(n + 1)
			stands(t, i, int(n)*api.Page, strings.Repeat("\x00", api.Page))
			ends(t, i, "put", list(n*api.Page+n, n+100), 0, 3)
		}
		ends(t, i, "grow", list(1), 0, 2, -1)
		pages(c.most)
		for n := c.least; n < c.most; n++ {
			stands(t, i, int(n*api.Page+n), string([]byte{byte(n + 100)}))
		}
	}
	i := made(t, functions+"(memory 2 9)"+exports)
	ends(t, i, "put", list(127, 5), 0, 3)
	ends(t, i, "grow", list(7), 0, 2, 2)
	stands(t, i, 127, "\x05"+strings.Repeat("\x00", 7*api.Page))
}

// P9: Bytes has as many as are asked for, or ErrArgs; without a memory there are none.
func TestBytes(t *testing.T) {
	i := made(t, `(module (memory 2) (data (i32.const 62) "abc\00\ff"))`)
	stands(t, i, 61, "\x00abc\x00\xff\x00")
	for _, c := range []struct {
		from, n int
		want    api.Errno
	}{
		{0, 0, api.OK}, {0, 128, api.OK}, {128, 0, api.OK}, {127, 1, api.OK}, {0, 129, api.ErrArgs}, {127, 2, api.ErrArgs}, {128, 1, api.ErrArgs}, {129, 0, api.ErrArgs}, {129, -1, api.ErrArgs},
		{-1, 0, api.ErrArgs}, {-1, 2, api.ErrArgs}, {5, -1, api.ErrArgs}, {128, -128, api.ErrArgs}, {math.MaxInt, 1, api.ErrArgs}, {1, math.MaxInt, api.ErrArgs}, {math.MaxInt, math.MaxInt, api.ErrArgs}, {math.MinInt, math.MinInt, api.ErrArgs}, {math.MinInt, math.MaxInt, api.ErrArgs}, {64, math.MinInt, api.ErrArgs},
	} {
		if got, errno := i.Bytes(c.from, c.n); errno != c.want || errno == api.OK && len(got) != c.n || errno != api.OK && got != "" {
			t.Errorf("P9: Bytes(%d, %d) = %x, %d, want %d", c.from, c.n, got, errno, c.want)
		}
	}
	i = made(t, "(module)")
	if i.Pages() != 0 {
		t.Errorf("P9: Pages() = %d without a memory", i.Pages())
	}
	if got, errno := i.Bytes(0, 1); got != "" || errno != api.ErrArgs {
		t.Errorf("P9: Bytes(0, 1) = %x, %d without a memory", got, errno)
	}
}

// P9: Global tells what a global that is exported is, an i32 with its sign.
func TestGlobals(t *testing.T) {
	i := made(t, `(module (func (param i32 i64) local.get 0 global.set 0 local.get 1 global.set 1) (memory 1) (global (mut i32) (i32.const 4294967291)) (global (mut i64) (i64.const 4294967291)) (global i32 (i32.const 7)) (export "f" (func 0)) (export "a" (global 0)) (export "b" (global 1)) (export "m" (memory 0)) (export "again" (global 0)))`)
	ask := func(name string, want int64, wantErrno api.Errno) {
		t.Helper()
		if n, errno := i.Global(name); n != want || errno != wantErrno {
			t.Errorf("P9: Global(%q) = %d, %d, want %d, %d", name, n, errno, want, wantErrno)
		}
	}
	ask("a", -5, api.OK)
	ask("again", -5, api.OK)
	ask("b", 4294967291, api.OK)
	for _, name := range []string{"", "f", "m", "A", "c", "2", "a "} {
		ask(name, 0, api.ErrName)
	}
	ends(t, i, "f", list(1<<31, -1<<63), 0, 4)
	ask("a", -1<<31, api.OK)
	ask("again", -1<<31, api.OK)
	ask("b", -1<<63, api.OK)
}
