// Package letter: which bytes may stand where, alike in bytes and in texts.
package letter

import "loom/api"

// Plain tells whether a byte stands for itself in a string of a text: no other may be in the name of an export.
func Plain(b byte) bool {
	return 32 <= b && b <= 126 && b != '"' && b != '\\'
}

// InName tells whether a byte may be in the name of a function, a param and so on.
func InName(b byte) bool {
	switch {
	case 'a' <= b && b <= 'z', 'A' <= b && b <= 'Z', '0' <= b && b <= '9':
		return true
	}
	return b == '_' || b == '.'
}

// Name tells whether a text may be such a name.
func Name(text string) bool {
	for i := range len(text) {
		if !InName(text[i]) {
			return false
		}
	}
	return text != "" && len(text) <= api.MaxName
}

// ExportName tells whether a text may be the name of an export.
func ExportName(text string) bool {
	for i := range len(text) {
		if !Plain(text[i]) {
			return false
		}
	}
	return len(text) <= api.MaxName
}
