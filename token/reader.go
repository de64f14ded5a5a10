package token

import (
	"loom/api"
	"loom/fault"
)

// Reader goes through tokens. A copy goes on by itself from where this one stands.
type Reader struct {
	tokens []Token // the last one is the end, or bad: what stands behind it is never looked at
	at     int
}

// New gives a reader of all the tokens of a text.
func New(text string) Reader {
	var r Reader
	for at := 0; ; {
		var t Token
		t, at = next(text, at)
		r.tokens = append(r.tokens, t)
		if t.Sort == Bad || t.Sort == End {
			return r
		}
	}
}

// Refuse gives up because of a token.
func Refuse(t Token) { fault.GiveUp(api.ErrText, t.At) }

// Peek tells the next token without taking it.
func (r *Reader) Peek() Token { return r.tokens[r.at] }

// Second tells the token behind the next one.
func (r *Reader) Second() Token {
	return r.tokens[min(r.at+1, len(r.tokens)-1)]
}

// Take takes the next token, which must be of this sort.
func (r *Reader) Take(sort Sort) Token {
	t := r.Peek()
	if t.Sort != sort {
		Refuse(t)
	}
	// The end stays where it is, however often it is taken.
	r.at = min(r.at+1, len(r.tokens)-1)
	return t
}

// TakeWord takes this word.
func (r *Reader) TakeWord(word string) Token {
	if t := r.Peek(); !t.is(word) {
		Refuse(t)
	}
	return r.Take(Word)
}

// Opens tells whether an opening bracket and this word come next.
func (r *Reader) Opens(word string) bool {
	return r.Peek().Sort == Open && r.Second().is(word)
}

// TakeOpen takes an opening bracket and this word, which it gives.
func (r *Reader) TakeOpen(word string) Token {
	r.Take(Open)
	return r.TakeWord(word)
}

// Is tells whether this word comes next.
func (r *Reader) Is(word string) bool { return r.Peek().is(word) }

func (t Token) is(word string) bool { return t.Sort == Word && t.Text == word }
