package nest

import (
	"fleuron/api"
)

// The walks keep a stack of lists of their own: what is handed in may be deeper than calls may be within calls.

// Copy is the same nodes in memory of their own.
func Copy(l []api.Node) []api.Node {
	all := own(l)
	open := [][]api.Node{all}
	for len(open) > 0 {
		list := open[len(open)-1]
		open = open[:len(open)-1]
		for i := range list {
			list[i].Kids = own(list[i].Kids)
			if len(list[i].Kids) > 0 {
				open = append(open, list[i].Kids)
			}
		}
	}
	return all
}

// own is a list of its own, of nodes that have the same Kids still.
func own(l []api.Node) []api.Node {
	return append([]api.Node(nil), l...)
}

// Same compares two.
func Same(a, b []api.Node) bool {
	type pair struct{ a, b []api.Node }
	open := []pair{{a, b}}
	for len(open) > 0 {
		two := open[len(open)-1]
		open = open[:len(open)-1]
		if len(two.a) != len(two.b) {
			return false
		}
		for i := range two.a {
			if two.a[i].Token != two.b[i].Token {
				return false
			}
			open = append(open, pair{two.a[i].Kids, two.b[i].Kids})
		}
	}
	return true
}

// Deep is how deep.
func Deep(l []api.Node) int {
	type list struct {
		nodes []api.Node
		depth int
	}
	open := []list{{l, 0}}
	deep := 0
	for len(open) > 0 {
		top := open[len(open)-1]
		open = open[:len(open)-1]
		if len(top.nodes) > 0 {
			top.depth++
			deep = max(deep, top.depth)
		}
		for _, n := range top.nodes {
			open = append(open, list{n.Kids, top.depth})
		}
	}
	return deep
}
