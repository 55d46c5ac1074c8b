package anb

import (
	"strings"

	"fleuron/api"
	"fleuron/points"
	"fleuron/token"
)

// hasKids tells whether n is more than a token.
func hasKids(n api.Node) bool { return len(n.Kids) > 0 }

// delim tells whether n is the sign s.
func delim(n api.Node, s string) bool { return n.Token.Kind == api.Delim && n.Token.Text == s }

// digits tells whether s is some, and nothing else.
func digits(s string) bool {
	for _, r := range s {
		if !points.Digit(r) {
			return false
		}
	}
	return s != ""
}

// behindWhite is l without the White ahead. A comment parts it, so there may be several.
func behindWhite(l []api.Node) []api.Node {
	for len(l) > 0 && l[0].Token.Kind == api.White {
		l = l[1:]
	}
	return l
}

// alone reads a word, or a number without an n.
func alone(l []api.Node) (a, b int, ok bool) {
	if len(l) != 1 {
		return 0, 0, false
	}
	t := l[0].Token
	if t.Kind == api.Number && t.Whole {
		return 0, t.Int, true
	}
	if t.Kind != api.Ident {
		return 0, 0, false
	}
	switch points.Lower(t.Text) {
	case "odd":
		return 2, 1, true
	case "even":
		return 2, 0, true
	}
	return 0, 0, false
}

// steps reads one with an n.
func steps(l []api.Node) (a, b int, ok bool) {
	a, unit, rest, ok := head(l)
	if !ok {
		return 0, 0, false
	}
	b, ok = offset(unit, rest)
	if !ok {
		return 0, 0, false
	}
	return a, b, true
}

// head reads a, what stands in the same word from the n on, and what is behind it.
func head(l []api.Node) (a int, unit string, rest []api.Node, ok bool) {
	plus := len(l) > 0 && delim(l[0], "+")
	if plus {
		l = l[1:]
	}
	if len(l) == 0 {
		return 0, "", nil, false
	}
	t := l[0].Token
	unit = points.Lower(t.Text)
	switch {
	case t.Kind == api.Ident && strings.HasPrefix(unit, "n"):
		return 1, unit, l[1:], true
	case plus: // no other may have it ahead
		return 0, "", nil, false
	case t.Kind == api.Ident && strings.HasPrefix(unit, "-n"):
		return -1, unit[1:], l[1:], true
	case t.Kind == api.Dimension && t.Whole:
		return t.Int, unit, l[1:], true
	}
	return 0, "", nil, false
}

// offset reads b, of which the head's word may have the sign, or all.
func offset(unit string, rest []api.Node) (b int, ok bool) {
	if unit == "n" {
		return behindN(rest)
	}
	told, minus := strings.CutPrefix(unit, "n-")
	switch {
	case !minus:
		return 0, false
	case told == "":
		b, ok = number(behindWhite(rest), false)
		return -b, ok
	case digits(told) && len(rest) == 0:
		return token.Int("-" + told), true
	}
	return 0, false
}

// behindN reads b behind a word that ends in n.
func behindN(l []api.Node) (b int, ok bool) {
	if len(l) == 0 {
		return 0, true
	}
	l = behindWhite(l)
	b, ok = number(l, true)
	if ok || len(l) == 0 {
		return b, ok
	}
	b, ok = number(behindWhite(l[1:]), false)
	switch {
	case delim(l[0], "+"):
		return b, ok
	case delim(l[0], "-"):
		return -b, ok
	}
	return 0, false
}

// number reads a whole one, with its sign or without one, and nothing behind it.
func number(l []api.Node, sign bool) (n int, ok bool) {
	if len(l) != 1 {
		return 0, false
	}
	t := l[0].Token
	if t.Kind != api.Number || !t.Whole || t.Sign != sign {
		return 0, false
	}
	return t.Int, true
}
