package match

import (
	"fleuron/anb"
	"fleuron/dom"
)

// key is what is asked: the number of a row, and a node.
type key [2]int

// asker asks the rows of a plan of the nodes of a tree: once, unless the answer may be seen at once.
type asker struct {
	kin
	plan
	known map[key]int
	asked []key // a stack of what is not known yet: each hangs on the one behind it
}

// newAsker is one without a plan.
func newAsker(t *dom.Tree) *asker {
	return &asker{
		kin:   kin{tree: t, families: map[int][]int{}},
		plan:  plan{rows: []row{{kind: never}}},
		known: map[key]int{},
	}
}

// ask is the answer of a row for a node.
func (a *asker) ask(row, node int) int {
	answer, _ := a.told(key{row, node})
	// No calls within calls: lists may be deeper within each other than calls may be.
	for len(a.asked) > 0 {
		last := len(a.asked) - 1
		q := a.asked[last]
		got, ok := a.try(q)
		if ok {
			a.known[q] = got
			a.asked = a.asked[:last]
			answer = got
		}
	}
	return answer
}

// told is the answer to q, if it is known, or may be seen at once; else q is asked from now on.
func (a *asker) told(q key) (answer int, ok bool) {
	r := &a.rows[q[0]]
	switch r.kind {
	case never:
		return no, true
	case plain:
		return truth(a.fits(r.compound, q[1])), true
	}
	answer, ok = a.known[q]
	if !ok {
		a.asked = append(a.asked, q)
	}
	return answer, ok
}

// truth is yes or no.
func truth(ok bool) int {
	if ok {
		return yes
	}
	return no
}

// try is the answer to q, if what it hangs on is told; else one more is asked, and q is to be tried again behind it.
func (a *asker) try(q key) (answer int, ok bool) {
	r, node := a.rows[q[0]], q[1]
	one, two := key{r.one, node}, key{r.two, node}
	switch r.kind {
	case listed:
		first := a.open(q[0])
		return a.told(key{first, node})
	case both:
		return a.unless(no, one, two)
	case either:
		return a.unless(yes, one, two)
	case not:
		answer, ok = a.told(one)
		return truth(answer == no), ok
	case step:
		return a.walk(q, r)
	case tally:
		return a.count(q, r)
	case nth:
		answer, ok = a.told(one)
		return truth(answer > 0 && anb.Match(r.simple.A, r.simple.B, answer)), ok
	}
	return no, true
}

// unless is what one is, if that is stop; else what two is.
func (a *asker) unless(stop int, one, two key) (answer int, ok bool) {
	answer, ok = a.told(one)
	if !ok || answer == stop {
		return answer, ok
	}
	return a.told(two)
}

// walk goes up or back. Behind the nearest node, it is as if it had begun there: so no way is gone twice.
func (a *asker) walk(q key, r row) (answer int, ok bool) {
	next := none
	switch r.comb {
	case " ", ">":
		next = a.parent(q[1])
	case "+", "~":
		next = a.beside(q[1], false)
	}
	if next == none {
		return no, true
	}
	nearest := key{r.one, next}
	if r.comb == ">" || r.comb == "+" {
		return a.told(nearest)
	}
	return a.unless(yes, nearest, key{q[0], next})
}

// count goes to an end likewise.
func (a *asker) count(q key, r row) (answer int, ok bool) {
	own, ok := a.told(key{r.one, q[1]})
	if !ok {
		return 0, false
	}
	next := a.beside(q[1], r.last)
	if next == none {
		return own, true
	}
	answer, ok = a.told(key{q[0], next})
	return own + answer, ok
}
