package selector

import (
	"slices"

	"fleuron/anb"
	"fleuron/api"
	"fleuron/nest"
	"fleuron/points"
)

// How many there may be.
const (
	mostParts  = 8
	mostSimple = 16
	mostListed = 16
)

// list reads complex ones with commas between, within so many functions; one that forgives leaves those out that are none.
func list(l []api.Node, depth int, forgives bool) ([]Complex, bool) {
	var all []Complex
	for _, part := range nest.Split(l) {
		w := walk{nodes: part, depth: depth}
		c, ok := w.chain()
		switch {
		case ok:
			all = append(all, c)
		case !forgives:
			return nil, false
		}
	}
	if len(all) > mostListed {
		return nil, false
	}
	return all, true
}

// chain reads a complex one, to the end.
func (w *walk) chain() (Complex, bool) {
	var c Complex
	w.white()
	for {
		part, ok := w.compound()
		if !ok || len(c.Parts) == mostParts {
			return Complex{}, false
		}
		c.Parts = append(c.Parts, part)
		if which, nodes := w.element(); nodes > 0 {
			c.Pseudo = which
			w.place += nodes
			w.white()
			return c, w.ended() && w.depth == 0
		}
		comb := w.combinator()
		if comb == "" {
			return c, w.ended()
		}
		c.Combs = append(c.Combs, comb)
	}
}

// combinator reads what is between two compounds; White at the end is none.
func (w *walk) combinator() string {
	parted := w.white()
	switch sign := w.delim(0); {
	case sign == ">" || sign == "+" || sign == "~":
		w.place++
		w.white()
		return sign
	case parted && !w.ended():
		return " "
	}
	return ""
}

// element is the pseudo-element at the place, and how many nodes it has: none if there is none.
func (w *walk) element() (which, nodes int) {
	colons := 0
	switch kinds := w.kinds(); {
	case kinds == [2]int{api.Colon, api.Colon}:
		colons = 2
	case kinds == [2]int{api.Colon, api.Ident}:
		colons = 1
	default:
		return api.Self, 0
	}
	name := w.ahead(colons).Token
	if name.Kind != api.Ident {
		return api.Self, 0
	}
	which = elementOf(points.Lower(name.Text))
	if which == api.Self || which == api.Marker && colons == 1 {
		return api.Self, 0
	}
	return which, colons + 1
}

// compound reads one; where a pseudo-element stands alone, it is of any node.
func (w *walk) compound() (Compound, bool) {
	from := w.place
	c := Compound{Tag: w.tag()}
	for w.atSimple() {
		s, ok := w.simple()
		if !ok || len(c.Simple) == mostSimple {
			return Compound{}, false
		}
		c.Simple = append(c.Simple, s)
	}
	if w.place > from {
		return c, true
	}
	if _, nodes := w.element(); nodes > 0 {
		return Compound{Tag: "*"}, true
	}
	return Compound{}, false
}

// tag reads a compound's, if it has one.
func (w *walk) tag() string {
	if w.delim(0) == "*" {
		w.place++
		return "*"
	}
	text, _ := w.lower()
	return text
}

// atSimple tells whether a simple one should be at the place.
func (w *walk) atSimple() bool {
	switch w.kind(0) {
	case api.Hash:
		return true
	case api.Delim:
		return w.delim(0) == "."
	case api.Open:
		return w.ahead(0).Token.Text == "["
	case api.Colon:
		_, nodes := w.element()
		return nodes == 0
	}
	return false
}

// simple reads the one at the place.
func (w *walk) simple() (Simple, bool) {
	n := w.take()
	switch n.Token.Kind {
	case api.Hash:
		return Simple{Kind: ID, Name: n.Token.Text}, n.Token.ID
	case api.Delim:
		name, ok := w.ident()
		return Simple{Kind: Class, Name: name}, ok
	case api.Open:
		return attribute(n.Kids)
	}
	return w.class()
}

// class reads a pseudo-class, behind its colon.
func (w *walk) class() (Simple, bool) {
	n := w.take()
	kind := kindOf(points.Lower(n.Token.Text))
	switch n.Token.Kind {
	case api.Ident:
		return Simple{Kind: kind}, First <= kind && kind <= Root
	case api.Function:
		return function(kind, n.Kids, w.depth+1)
	}
	return Simple{}, false
}

// function reads what is in a function of a kind, that many deep.
func function(kind int, l []api.Node, depth int) (Simple, bool) {
	if depth > api.MaxNest {
		return Simple{}, false
	}
	switch kind {
	case Nth, NthLast:
		return nth(kind, l, depth)
	case Not, Is, Where:
		all, ok := list(l, depth, kind != Not)
		return Simple{Kind: kind, List: all}, ok
	}
	return Simple{}, false
}

// nth reads every so many, and of whom. Only the first `of` can part them: no such number has one in it.
func nth(kind int, l []api.Node, depth int) (Simple, bool) {
	s := Simple{Kind: kind}
	if at := slices.IndexFunc(l, of); at >= 0 {
		if !whiteAt(l, at-1) || !whiteAt(l, at+1) {
			return Simple{}, false
		}
		all, ok := list(l[at+1:], depth, false)
		if !ok {
			return Simple{}, false
		}
		s.List = all
		l = l[:at]
	}
	a, b, e := anb.Parse(l)
	s.A, s.B = a, b
	return s, e == api.OK
}

// of tells whether n is the word ahead of a list.
func of(n api.Node) bool {
	return n.Token.Kind == api.Ident && points.Lower(n.Token.Text) == "of"
}

// whiteAt tells whether White is at a place, which may be none.
func whiteAt(l []api.Node, at int) bool {
	return at >= 0 && at < len(l) && l[at].Token.Kind == api.White
}
