package selector

import (
	"fleuron/anb"
)

// piece is some of what is written: a text, and behind it a list that is not written yet.
type piece struct {
	text string
	list []Complex
}

// listed is the pieces of a list.
func listed(l []Complex) []piece {
	var all []piece
	for i, c := range l {
		if i > 0 {
			all = append(all, piece{text: ", "})
		}
		all = addChain(all, c)
	}
	return all
}

// addChain is all, and the pieces of c.
func addChain(all []piece, c Complex) []piece {
	for i, p := range c.Parts {
		if i > 0 && i <= len(c.Combs) {
			all = append(all, piece{text: between(c.Combs[i-1])})
		}
		all = append(all, piece{text: p.Tag})
		for _, s := range p.Simple {
			all = addSimple(all, s)
		}
	}
	if isElement(c.Pseudo) {
		all = append(all, piece{text: "::" + elements[c.Pseudo]})
	}
	return all
}

// between is how a combinator is written.
func between(comb string) string {
	if comb == " " {
		return comb
	}
	return " " + comb + " "
}

// addSimple is all, and the pieces of s.
func addSimple(all []piece, s Simple) []piece {
	switch s.Kind {
	case ID:
		return append(all, piece{text: "#" + s.Name})
	case Class:
		return append(all, piece{text: "." + s.Name})
	case Attr:
		return append(all, piece{text: bracketed(s)})
	case First, Last, Only, Empty, Root:
		return append(all, piece{text: ":" + words[s.Kind]})
	case Nth, NthLast:
		text := ":" + words[s.Kind] + "(" + anb.Text(s.A, s.B)
		if len(s.List) > 0 {
			text += " of "
		}
		return append(all, piece{text, s.List}, piece{text: ")"})
	case Not, Is, Where:
		return append(all, piece{":" + words[s.Kind] + "(", s.List}, piece{text: ")"})
	}
	return all
}

// bracketed is how an attribute's is written.
func bracketed(s Simple) string {
	text := "[" + s.Name
	if s.Op != "" {
		text += s.Op + `"` + s.Value + `"`
	}
	if s.Fold {
		text += " i"
	}
	return text + "]"
}
