package token

import (
	"fleuron/api"
	"fleuron/points"
)

// signed tells whether `+` or `-` is n signs on.
func (w *walk) signed(n int) bool { return w.ahead(n) == '+' || w.ahead(n) == '-' }

// numberBegins tells whether a number does, at the place.
func (w *walk) numberBegins() bool {
	n := 0
	if w.signed(n) {
		n++
	}
	return points.Digit(w.ahead(n)) || w.fraction(n)
}

// fraction tells whether `.` and a Digit are n signs on.
func (w *walk) fraction(n int) bool { return w.ahead(n) == '.' && points.Digit(w.ahead(n+1)) }

// exponent is how many signs are ahead of the exponent's digits; 0 if there is no exponent at the place.
func (w *walk) exponent() int {
	if w.ahead(0) != 'e' && w.ahead(0) != 'E' {
		return 0
	}
	n := 1
	if w.signed(n) {
		n++
	}
	if !points.Digit(w.ahead(n)) {
		return 0
	}
	return n
}

// count goes on behind the digits.
func (w *walk) count() {
	for points.Digit(w.ahead(0)) {
		w.skip(1)
	}
}

// number is the number at the place, with what it counts.
func (w *walk) number() api.Token {
	t := w.plain()
	switch {
	case w.nameBegins(0):
		t.Kind = api.Dimension
		t.Text = w.name()
	case w.took("%"):
		t.Kind = api.Percentage
	default:
		t.Kind = api.Number
	}
	return t
}

// plain is the number at the place, alone.
func (w *walk) plain() api.Token {
	from := w.place
	t := api.Token{Sign: w.signed(0), Whole: true}
	if t.Sign {
		w.skip(1)
	}
	w.count()
	if w.fraction(0) {
		w.skip(1)
		w.count()
		t.Whole = false
	}
	if n := w.exponent(); n > 0 {
		w.skip(n)
		w.count()
		t.Whole = false
	}
	if t.Whole {
		t.Int = Int(string(w.signs[from:w.place]))
	}
	return t
}
