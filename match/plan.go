package match

import (
	"slices"

	"fleuron/selector"
)

// Kinds of rows.
const (
	never  = 0 // no
	plain  = 1 // does it fit the compound?
	listed = 2 // is it one of the list?
	both   = 3 // no, if one is; else what two is
	either = 4 // yes, if one is; else what two is
	not    = 5 // is one no?
	step   = 6 // is one yes of a node that the combinator leads to?
	tally  = 7 // of how many is one yes, from that end of the family to it?
	nth    = 8 // is one above 0, and one of every so many?
)

// Answers of rows; tally, and what hangs on it alone, has numbers above yes, too.
const (
	no  = 0
	yes = 1
)

// row is a question that may be asked of any node. It hangs on the rows one and two.
type row struct {
	kind     int
	one, two int
	compound *selector.Compound
	simple   *selector.Simple
	list     []selector.Complex
	comb     string
	last     bool
}

// plan is rows, by their numbers. The first is never.
type plan struct {
	rows []row
}

// add writes a row, and is its number.
func (p *plan) add(r row) int {
	p.rows = append(p.rows, r)
	return len(p.rows) - 1
}

// joined tells whether c has Parts, and a combinator between each two.
func joined(c selector.Complex) bool {
	return len(c.Parts) > 0 && len(c.Combs) == len(c.Parts)-1
}

// chain writes a complex one.
func (p *plan) chain(c selector.Complex) int {
	if !joined(c) {
		return never
	}
	n := p.compound(&c.Parts[0])
	for i, comb := range c.Combs {
		ahead := p.add(row{kind: step, comb: comb, one: n})
		n = p.compound(&c.Parts[i+1])
		n = p.add(row{kind: both, one: n, two: ahead})
	}
	return n
}

// compound writes one.
func (p *plan) compound(c *selector.Compound) int {
	n := p.add(row{kind: plain, compound: c})
	for i := range c.Simple {
		s := &c.Simple[i]
		if hangs(s) {
			more := p.hanging(s)
			n = p.add(row{kind: both, one: n, two: more})
		}
	}
	return n
}

// hanging writes a simple one that hangs on a list.
func (p *plan) hanging(s *selector.Simple) int {
	switch s.Kind {
	case selector.Not:
		n := p.list(s.List)
		return p.add(row{kind: not, one: n})
	case selector.Nth, selector.NthLast:
		n := p.index(s.List, s.Kind == selector.NthLast)
		return p.add(row{kind: nth, one: n, simple: s})
	}
	return p.list(s.List)
}

// index writes the place among those of a list.
func (p *plan) index(l []selector.Complex, last bool) int {
	n := p.list(l)
	many := p.add(row{kind: tally, one: n, last: last})
	return p.add(row{kind: both, one: n, two: many})
}

// list writes that of a list alone. What is in it is written by open, when somebody asks: lists may be deep within each other.
func (p *plan) list(l []selector.Complex) int {
	return p.add(row{kind: listed, list: l})
}

// open is the row on which that of a list hangs: never, until it is written.
func (p *plan) open(list int) int {
	r := p.rows[list]
	if r.one != never {
		return r.one
	}
	n := never
	for _, c := range slices.Backward(r.list) {
		first := p.chain(c)
		n = p.add(row{kind: either, one: first, two: n})
	}
	p.rows[list].one = n
	return n
}
