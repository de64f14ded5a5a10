package loom_test

import (
	"math/big"
	"strings"
	"testing"

	"loom/api"
)

// P9: what each instruction makes of numbers, held against numbers that have no end.
func TestSums(t *testing.T) {
	words := strings.Fields("eqz eq ne lt_s lt_u gt_s gt_u le_s le_u ge_s ge_u clz ctz popcnt add sub mul div_s div_u rem_s rem_u and or xor shl shr_s shr_u rotl rotr")
	for _, kind := range []string{"i32", "i64"} {
		for _, word := range words {
			askWord(t, kind, word)
		}
	}
}

// askWord asks a word of all edges, each with each.
func askWord(t *testing.T, kind, word string) {
	t.Helper()
	gives := kind
	if compares(word) {
		gives = "i32"
	}
	i := made(t, alone("(param "+kind+" "+kind+") (result "+gives+") "+behind(kind, word)))
	cost := 3
	if ofOne(word) {
		cost = 2
	}
	size := sizeOf(kind)
	for _, a := range edges(size) {
		for _, b := range edges(size) {
			want, why := sumOf(word, size, a, b)
			done, errno := i.Call("f", list(a, b), 10)
			if why == 0 && !sameDone(done, api.Done{Results: list(want), Left: 10 - cost}) || why != 0 && !sameDone(done, api.Done{Why: why, Left: 10 - cost}) || errno != api.OK {
				t.Errorf("P9: %s.%s of %d, %d = %v, %d, want %d, %d", kind, word, a, b, done, errno, want, why)
			}
		}
	}
}

func behind(kind, word string) string {
	if ofOne(word) {
		return "local.get 0 " + kind + "." + word
	}
	return "local.get 0 local.get 1 " + kind + "." + word
}

func ofOne(word string) bool {
	return word == "eqz" || word == "clz" || word == "ctz" || word == "popcnt"
}

func compares(word string) bool {
	return word == "eqz" || word == "eq" || word == "ne" || strings.HasPrefix(word, "lt_") || strings.HasPrefix(word, "gt_") || strings.HasPrefix(word, "le_") || strings.HasPrefix(word, "ge_")
}

func sizeOf(kind string) uint {
	if kind == "i32" {
		return 32
	}
	return 64
}

// edges are numbers about which something may be odd.
func edges(size uint) []int64 {
	least := int64(-1) << (size - 1)
	return []int64{0, 1, -1, 2, -2, 3, 7, -7, 10, 31, 32, 33, 63, 64, 65, -31, -32, -33, 255, 1 << 16, 1<<30 + 5, 0x12345678, least, least + 1, -(least + 1), -(least + 2), least / 2, 1 << (size/2 - 1)}
}

// sumOf gives what a word makes of two numbers, worked out with numbers that have no end, or why it is broken off.
func sumOf(word string, size uint, a, b int64) (int64, int) {
	x, y := big.NewInt(a), big.NewInt(b)
	if strings.HasSuffix(word, "_u") {
		x, y = plain(x, size), plain(y, size)
	}
	if compares(word) {
		if holds(word, x, y) {
			return 1, 0
		}
		return 0, 0
	}
	if strings.HasPrefix(word, "div") || strings.HasPrefix(word, "rem") {
		return quotient(word, size, x, y)
	}
	if ofOne(word) {
		return countOf(word, size, x), 0
	}
	n := uint(plain(y, size).Uint64() % uint64(size))
	z := new(big.Int)
	switch word {
	case "add":
		z.Add(x, y)
	case "sub":
		z.Sub(x, y)
	case "mul":
		z.Mul(x, y)
	case "and":
		z.And(x, y)
	case "or":
		z.Or(x, y)
	case "xor":
		z.Xor(x, y)
	case "shl":
		z.Lsh(x, n)
	case "shr_s", "shr_u":
		z.Rsh(x, n)
	case "rotl":
		z.Or(new(big.Int).Lsh(plain(x, size), n), new(big.Int).Rsh(plain(x, size), size-n))
	case "rotr":
		z.Or(new(big.Int).Rsh(plain(x, size), n), new(big.Int).Lsh(plain(x, size), size-n))
	}
	return signed(z, size), 0
}

// plain gives a number's bits without a sign.
func plain(x *big.Int, size uint) *big.Int {
	return new(big.Int).Mod(x, new(big.Int).Lsh(big.NewInt(1), size))
}

// signed gives a number's lowest bits with a sign.
func signed(x *big.Int, size uint) int64 {
	z := plain(x, size)
	if z.Bit(int(size-1)) == 1 {
		z.Sub(z, new(big.Int).Lsh(big.NewInt(1), size))
	}
	return z.Int64()
}

func holds(word string, x, y *big.Int) bool {
	switch word[:2] {
	case "eq":
		return word == "eqz" && x.Sign() == 0 || word == "eq" && x.Cmp(y) == 0
	case "ne":
		return x.Cmp(y) != 0
	case "lt":
		return x.Cmp(y) < 0
	case "gt":
		return x.Cmp(y) > 0
	case "le":
		return x.Cmp(y) <= 0
	}
	return x.Cmp(y) >= 0
}

func quotient(word string, size uint, x, y *big.Int) (int64, int) {
	if y.Sign() == 0 {
		return 0, api.Nought
	}
	q, r := new(big.Int).QuoRem(x, y, new(big.Int))
	if word[:3] == "rem" {
		return signed(r, size), 0
	}
	if word == "div_s" && q.Cmp(new(big.Int).Lsh(big.NewInt(1), size-1)) == 0 {
		return 0, api.Over
	}
	return signed(q, size), 0
}

func countOf(word string, size uint, x *big.Int) int64 {
	var n int64
	for i := range int(size) {
		bit := plain(x, size).Bit(i)
		switch {
		case word == "popcnt" && bit == 1:
			n++
		case word == "clz" && bit == 0:
			n++
		case word == "clz":
			n = 0
		case word == "ctz" && bit == 1:
			return n
		case word == "ctz":
			n++
		}
	}
	return n
}

// P9: one kind made of the other.
func TestChanges(t *testing.T) {
	for _, c := range []struct {
		word, takes, gives string
		n, want            int64
	}{
		{"i32.wrap_i64", "i64", "i32", 1<<32 + 7, 7}, {"i32.wrap_i64", "i64", "i32", 1 << 31, -1 << 31}, {"i32.wrap_i64", "i64", "i32", -1, -1}, {"i32.wrap_i64", "i64", "i32", -1 << 63, 0},
		{"i64.extend_i32_s", "i32", "i64", -5, -5}, {"i64.extend_i32_s", "i32", "i64", 1<<31 - 1, 1<<31 - 1}, {"i64.extend_i32_s", "i32", "i64", 1 << 31, -1 << 31},
		{"i64.extend_i32_u", "i32", "i64", -5, 1<<32 - 5}, {"i64.extend_i32_u", "i32", "i64", 1<<31 - 1, 1<<31 - 1}, {"i64.extend_i32_u", "i32", "i64", -1 << 31, 1 << 31},
	} {
		i := made(t, alone("(param "+c.takes+") (result "+c.gives+") local.get 0 "+c.word))
		ends(t, i, "f", list(c.n), 0, 2, c.want)
	}
}

// P9: of an i32 the lowest 32 bits of what is handed in are taken, of an i64 all; results have a sign.
func TestNumbersHandedIn(t *testing.T) {
	i := made(t, alone("(param i32 i64) (result i64 i32) local.get 1 local.get 0"))
	for _, c := range [][3]int64{{0, 0, 0}, {4294967295, 4294967295, -1}, {1 << 31, 1 << 31, -1 << 31}, {1<<31 - 1, -1, 1<<31 - 1}, {1 << 32, 1 << 32, 0}, {-1 << 63, -1 << 63, 0}, {1<<63 - 1, 1<<63 - 1, -1}, {-5, -5, -5}} {
		ends(t, i, "f", list(c[0], c[1]), 0, 2, c[1], c[2])
	}
	// What is not taken of a number is not there for any word.
	i = made(t, alone("(param i32) (result i32 i64 i32) local.get 0 i32.eqz local.get 0 i64.extend_i32_u i32.const 1 i32.const 2 local.get 0 select"))
	ends(t, i, "f", list(1<<32), 0, 8, 1, 0, 2)
	ends(t, i, "f", list(-1<<32+3), 0, 8, 0, 3, 1)
}

// Example 1: a call, and what it answers.
func TestExampleCall(t *testing.T) {
	i := made(t, `(module (func $id (param $x i32) (result i32) local.get $x) (export "id" (func $id)))`)
	done, errno := i.Call("id", list(4294967295), 10)
	if errno != api.OK || !sameDone(done, api.Done{Results: list(-1), Left: 9}) {
		t.Errorf("Call(id, 4294967295, 10) = %v, %d", done, errno)
	}
}

// P9: the numbers of consts and globals have their kind's sign.
func TestSigns(t *testing.T) {
	i := made(t, among("(result i32 i64 i32 i64) i32.const 4294967295 i64.const 4294967295 global.get 0 global.get 1", "(global i32 (i32.const 2147483648)) (global i64 (i64.const 18446744073709551615))", ""))
	ends(t, i, "f", nil, 0, 4, -1, 4294967295, -1<<31, -1)
}
