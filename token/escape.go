package token

import (
	"unicode/utf8"

	"fleuron/points"
)

// mostHex is how many digits an escape has at most.
const mostHex = 6

// escape is the sign of the valid escape at the place.
func (w *walk) escape() rune {
	w.take()
	if w.ended() {
		return utf8.RuneError
	}
	n, count := w.hexes()
	if count == 0 {
		return w.take()
	}
	if points.White(w.ahead(0)) {
		w.take()
	}
	return meant(n)
}

// hexes is the number that the digits at the place tell, and how many they are.
func (w *walk) hexes() (n, count int) {
	for count < mostHex {
		d, ok := points.Hex(w.ahead(0))
		if !ok {
			break
		}
		w.take()
		n = n<<4 | d
		count++
	}
	return n, count
}

// meant is the sign that has the number n, or U+FFFD if none may be meant by it.
func meant(n int) rune {
	if n == 0 || !utf8.ValidRune(rune(n)) {
		return utf8.RuneError
	}
	return rune(n)
}
