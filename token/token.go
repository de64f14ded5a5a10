// Package token: the tokens of a text, and a reader of them, which gives up at the first one that cannot stand where it stands.
package token

import (
	"strings"

	"loom/letter"
)

// Sort is what a token is.
type Sort byte

const (
	Bad   Sort = iota // what begins no token
	End               // behind the last one
	Open              // an opening bracket
	Close             // a closing one
	String
	Word
)

// Token is a piece of a text.
type Token struct {
	Sort Sort
	At   int    // the place of its first byte
	Text string // of a word: itself; of a string: the bytes for which it stands
}

// next gives the first token from a place on, and the place behind it.
func next(text string, from int) (Token, int) {
	at := skip(text, from)
	t := Token{At: at}
	switch {
	case at == len(text):
		t.Sort = End
	case text[at] == '(':
		t.Sort = Open
		at++
	case text[at] == ')':
		t.Sort = Close
		at++
	case text[at] == '"':
		return quoted(text, at)
	case inWord(text[at]):
		for at < len(text) && inWord(text[at]) {
			at++
		}
		t.Sort, t.Text = Word, text[t.At:at]
	}
	return t, at
}

// skip gives the place behind blanks, line feeds and comments.
func skip(text string, at int) int {
	for at < len(text) {
		switch {
		case text[at] == ' ', text[at] == '\n':
			at++
		case strings.HasPrefix(text[at:], ";;"):
			at += lineLength(text[at:])
		default:
			return at
		}
	}
	return at
}

// lineLength tells how far it is to the line feed, or the end.
func lineLength(text string) int {
	if n := strings.IndexByte(text, '\n'); n >= 0 {
		return n
	}
	return len(text)
}

// inWord tells whether a byte may be in a word.
func inWord(b byte) bool {
	return letter.InName(b) || b == '$' || b == '-' || b == '='
}

// quoted gives the string that begins at a place, and the place behind it. What is no string up to its closing mark begins no token.
func quoted(text string, from int) (Token, int) {
	var bytes []byte
	at := from + 1
	for at < len(text) {
		switch b := text[at]; {
		case b == '"':
			return Token{Sort: String, At: from, Text: string(bytes)}, at + 1
		case letter.Plain(b):
			bytes = append(bytes, b)
			at++
		case b == '\\' && isByte(text[at+1:]):
			bytes = append(bytes, digit(text[at+1])<<4|digit(text[at+2]))
			at += 3
		default:
			return Token{Sort: Bad, At: from}, at
		}
	}
	return Token{Sort: Bad, At: from}, at
}

// isByte tells whether two digits of a byte come first.
func isByte(text string) bool {
	return len(text) >= 2 && isDigit(text[0]) && isDigit(text[1])
}

func isDigit(b byte) bool {
	return '0' <= b && b <= '9' || 'a' <= b && b <= 'f'
}

// digit gives the number of one of sixteen digits.
func digit(b byte) byte {
	if b <= '9' {
		return b - '0'
	}
	return b - 'a' + 10
}
