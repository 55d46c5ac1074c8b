package prop

import (
	"fleuron/api"
)

// counting is how a property's counters are read.
type counting struct {
	unsaid   int  // the N of one without a number
	reversed bool // whether there may be reversed ones
}

func readAdd(l []api.Node) (api.Style, bool) {
	all, ok := counting{unsaid: 1}.counters(l)
	return api.Style{Add: all}, ok
}

func readReset(l []api.Node) (api.Style, bool) {
	all, ok := counting{reversed: true}.counters(l)
	return api.Style{Reset: all}, ok
}

func readSet(l []api.Node) (api.Style, bool) {
	all, ok := counting{}.counters(l)
	return api.Style{Set: all}, ok
}

// counters is all of l, one at least, or the word none.
func (c counting) counters(l []api.Node) ([]api.Pair, bool) {
	if alone(l) == none {
		return nil, true
	}
	var all []api.Pair
	for len(l) > 0 {
		p, ok := c.counter(l[0])
		if !ok || len(all) == api.MaxList {
			return nil, false
		}
		l = l[1:]
		n, said := number(l)
		switch {
		case said:
			p.N = n
			l = l[1:]
		case p.Rev:
			p.Auto = true
		default:
			p.N = c.unsaid
		}
		all = append(all, p)
	}
	return all, len(all) > 0
}

// counter is one as far as the node that begins it tells.
func (c counting) counter(n api.Node) (api.Pair, bool) {
	p := api.Pair{Rev: c.reversed && n.Token.Kind == api.Function && small(n) == "reversed"}
	if p.Rev {
		kids := withoutWhite(n.Kids)
		if len(kids) != 1 {
			return api.Pair{}, false
		}
		n = kids[0]
	}
	var ok bool
	p.Name, ok = counterName(n)
	return p, ok
}

// counterName is a counter's: an Ident that says nothing else.
func counterName(n api.Node) (string, bool) {
	word := small(n)
	if n.Token.Kind != api.Ident || word == none || wideWord(word) != Said {
		return "", false
	}
	return n.Token.Text, true
}

// number is the whole one that l begins with.
func number(l []api.Node) (int, bool) {
	if len(l) == 0 || l[0].Token.Kind != api.Number || !l[0].Token.Whole {
		return 0, false
	}
	return l[0].Token.Int, true
}
