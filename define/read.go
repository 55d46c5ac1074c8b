package define

import (
	"fleuron/api"
	"fleuron/points"
)

// withoutWhite is l without the White that parts its nodes.
func withoutWhite(l []api.Node) []api.Node {
	var all []api.Node
	for _, n := range l {
		if n.Token.Kind != api.White {
			all = append(all, n)
		}
	}
	return all
}

// word is an Ident in small letters; empty of another node.
func word(n api.Node) string {
	if n.Token.Kind != api.Ident {
		return ""
	}
	return points.Lower(n.Token.Text)
}

// number is a whole one.
func number(n api.Node) (int, bool) {
	if n.Token.Kind != api.Number || !n.Token.Whole {
		return 0, false
	}
	return n.Token.Int, true
}

// bound is a whole number, or the farthest there is.
func bound(n api.Node, farthest int) (int, bool) {
	if word(n) == "infinite" {
		return farthest, true
	}
	return number(n)
}

// symbols is one at least, and nothing else.
func symbols(l []api.Node) ([]string, bool) {
	var all []string
	for _, n := range l {
		text, ok := Symbol(n)
		if !ok {
			return nil, false
		}
		all = append(all, text)
	}
	return all, len(all) > 0
}

// numbered is a whole number not below 0 and a symbol, whichever is ahead.
func numbered(l []api.Node) (int, string, bool) {
	if len(l) != 2 {
		return 0, "", false
	}
	count, sign := l[0], l[1]
	if count.Token.Kind != api.Number {
		count, sign = sign, count
	}
	n, isNumber := number(count)
	text, isSymbol := Symbol(sign)
	if !isNumber || !isSymbol || n < 0 {
		return 0, "", false
	}
	return n, text, true
}
