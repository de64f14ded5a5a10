package token

import (
	"slices"
	"testing"

	"loom/api"
	"loom/fault"
)

// all takes every token that a reader tells, up to the end or what is none.
func all(text string) []Token {
	r := New(text)
	var tokens []Token
	for {
		t := r.Peek()
		tokens = append(tokens, t)
		if t.Sort == Bad || t.Sort == End {
			return tokens
		}
		r.Take(t.Sort)
	}
}

func TestTokens(t *testing.T) {
	for text, want := range map[string][]Token{
		"":                  {{End, 0, ""}},
		" \n ;; (x \"\n;;":  {{End, 13, ""}},
		"()":                {{Open, 0, ""}, {Close, 1, ""}, {End, 2, ""}},
		"(a$-=_.9 \n\"b\")": {{Open, 0, ""}, {Word, 1, "a$-=_.9"}, {String, 10, "b"}, {Close, 13, ""}, {End, 14, ""}},
		"a;;b\nc;d":         {{Word, 0, "a"}, {Word, 5, "c"}, {Bad, 6, ""}},
		"\"\\00\\9f\\a0\"x": {{String, 0, "\x00\x9f\xa0"}, {Word, 11, "x"}, {End, 12, ""}},
		"\"\"\"a;;\"":       {{String, 0, ""}, {String, 2, "a;;"}, {End, 7, ""}},
		"x\"a\n\"":          {{Word, 0, "x"}, {Bad, 1, ""}},
		"x \"\\0A\"":        {{Word, 0, "x"}, {Bad, 2, ""}},
		"x\t":               {{Word, 0, "x"}, {Bad, 1, ""}},
	} {
		if got := all(text); !slices.Equal(got, want) {
			t.Errorf("of %q: %v, want %v", text, got, want)
		}
	}
}

// The end can be asked for again and again, and is refused where something else must stand.
func TestEnd(t *testing.T) {
	r := New("( x")
	if !r.Opens("x") || r.Opens("y") || r.Is("x") {
		t.Error("the first two tokens")
	}
	if word := r.TakeOpen("x"); word.At != 2 {
		t.Errorf("the word is %v", word)
	}
	for range 3 {
		if r.Second().Sort != End || r.Take(End).At != 3 {
			t.Error("the end is not the end")
		}
	}
	defer func() {
		if f, ok := recover().(fault.Fault); !ok || f != (fault.Fault{Errno: api.ErrText, At: 3}) {
			t.Errorf("it gives up with %v", f)
		}
	}()
	r.Take(Word)
}

// A string is neither a number nor an id, whatever is in it.
func TestStringIsNoWord(t *testing.T) {
	one := Token{Sort: String, Text: "1"}
	_, number := one.U()
	_, signed := one.S(32)
	_, id := Token{Sort: String, Text: "$a"}.ID()
	_, setting := Token{Sort: String, Text: "offset=1"}.Setting("offset")
	if number || signed || id || setting || one.is("1") {
		t.Error("a string is taken for a word")
	}
}
