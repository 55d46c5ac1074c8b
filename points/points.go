// Package points is a sheet's signs: see DOC.md, chapter 1.
package points

import (
	"unicode/utf8"
)

// mark is the sign by which some programs begin a UTF-8 file; it is none of the sheet's.
const mark = 0xFEFF

// Read is the signs of bytes.
func Read(b []byte) []rune {
	signs := make([]rune, 0, utf8.RuneCount(b))
	var last rune
	for at, r := range string(b) {
		begins := at == 0 && r == mark
		paired := last == '\r' && r == '\n' // the CR has told this line's end already
		if !begins && !paired {
			signs = append(signs, plain(r))
		}
		last = r
	}
	return signs
}

// plain is the sign that stands for one in a sheet.
func plain(r rune) rune {
	switch r {
	case '\r', '\f':
		return '\n'
	case 0:
		return utf8.RuneError
	}
	return r
}

// Put is a sign's bytes.
func Put(r rune) string { return string(r) }

// Letter tells whether a name may begin with it.
func Letter(r rune) bool {
	return within(r, 'a', 'z') || within(r, 'A', 'Z') || r == '_' || r >= 0x80
}

// Name tells whether a name may have it.
func Name(r rune) bool { return Letter(r) || Digit(r) || r == '-' }

// Digit tells whether it is one.
func Digit(r rune) bool { return within(r, '0', '9') }

// Hex is its value.
func Hex(r rune) (int, bool) {
	switch {
	case Digit(r):
		return int(r - '0'), true
	case within(r, 'a', 'f'):
		return int(r-'a') + 10, true
	case within(r, 'A', 'F'):
		return int(r-'A') + 10, true
	}
	return 0, false
}

// White tells whether it parts words.
func White(r rune) bool { return r == '\n' || r == '\t' || r == ' ' }

// Lower makes letters small.
func Lower(s string) string {
	// Byte by byte: a walk over signs would turn bytes that are none into U+FFFD.
	b := []byte(s)
	for i, c := range b {
		if within(rune(c), 'A', 'Z') {
			b[i] = c - 'A' + 'a'
		}
	}
	return string(b)
}

// within tells whether r is from first to last.
func within(r, first, last rune) bool { return first <= r && r <= last }
