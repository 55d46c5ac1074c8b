package token

import (
	"fleuron/points"
)

// walk is signs, and the place that goes on over them.
type walk struct {
	signs []rune
	place int
}

// none is told beyond the last sign. A sign that is handed in may be the same number, so the end is asked for by ended and behind; but none is of no kind and like no sign that is looked for.
const none = -1

// ended tells whether the place is the end.
func (w *walk) ended() bool { return w.behind(0) }

// behind tells whether the end is at most n signs on.
func (w *walk) behind(n int) bool { return n >= len(w.signs)-w.place }

// ahead is the sign that is n signs on.
func (w *walk) ahead(n int) rune {
	if w.behind(n) {
		return none
	}
	return w.signs[w.place+n]
}

// skip goes n signs on.
func (w *walk) skip(n int) { w.place += n }

// take is the sign at the place, and goes on behind it.
func (w *walk) take() rune {
	r := w.ahead(0)
	w.skip(1)
	return r
}

// took tells whether s is at the place, and goes on behind it if it is. It is for texts of small signs.
func (w *walk) took(s string) bool {
	for i, r := range s {
		if w.ahead(i) != r {
			return false
		}
	}
	w.skip(len(s))
	return true
}

// comments goes on behind all that are at the place.
func (w *walk) comments() {
	for w.took("/*") {
		for !w.ended() && !w.took("*/") {
			w.skip(1)
		}
	}
}

// white goes on behind the White signs, and is how many they were.
func (w *walk) white() int {
	from := w.place
	for points.White(w.ahead(0)) {
		w.skip(1)
	}
	return w.place - from
}

// escapes tells whether a valid escape is n signs on.
func (w *walk) escapes(n int) bool { return w.ahead(n) == '\\' && w.ahead(n+1) != '\n' }

// nameBegins tells whether a name does, n signs on.
func (w *walk) nameBegins(n int) bool {
	r := w.ahead(n)
	if r != '-' {
		return points.Letter(r) || w.escapes(n)
	}
	next := w.ahead(n + 1)
	return points.Letter(next) || next == '-' || w.escapes(n+1)
}

// name is the name at the place.
func (w *walk) name() string {
	var text []rune
	for {
		switch {
		case points.Name(w.ahead(0)):
			text = append(text, w.take())
		case w.escapes(0):
			text = append(text, w.escape())
		default:
			return string(text)
		}
	}
}
