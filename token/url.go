package token

import (
	"fleuron/api"
	"fleuron/points"
)

// url is what a name that means one begins; the place is at its `(`.
func (w *walk) url(name string) api.Token {
	w.take()
	white := w.white()
	if r := w.ahead(0); r != '"' && r != '\'' {
		return w.address()
	}
	if white > 0 {
		w.skip(-1) // one of them is a token of its own
	}
	return api.Token{Kind: api.Function, Text: name}
}

// address is a URL without quotes, from its first sign that is not White.
func (w *walk) address() api.Token {
	var text []rune
	for !w.closed() {
		r := w.ahead(0)
		switch {
		case w.escapes(0):
			text = append(text, w.escape())
		case points.White(r):
			w.white()
			if !w.closed() {
				return w.bad()
			}
			return api.Token{Kind: api.URL, Text: string(text)}
		case spoils(r):
			return w.bad()
		default:
			text = append(text, w.take())
		}
	}
	return api.Token{Kind: api.URL, Text: string(text)}
}

// closed tells whether `)`, which is taken, or the end is at the place.
func (w *walk) closed() bool { return w.took(")") || w.ended() }

// bad is a URL that may not be, from a place in it on.
func (w *walk) bad() api.Token {
	for !w.closed() {
		if w.escapes(0) {
			w.escape()
		} else {
			w.skip(1)
		}
	}
	return api.Token{Kind: api.BadURL}
}

// spoils tells whether a URL may not have the sign r; `\` is one that escapes nothing.
func spoils(r rune) bool {
	switch r {
	case '"', '\'', '(', '\\', 11, 127:
		return true
	}
	return r >= 0 && r <= 8 || r >= 14 && r <= 31
}
