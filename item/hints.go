package item

import (
	"math"
	"slices"

	"fleuron/api"
	"fleuron/computed"
	"fleuron/dom"
	"fleuron/scope"
)

// listItem is the counter of lists, and the Display of what it counts.
const listItem = "list-item"

// says tells whether a style's pairs name the counter of lists themselves.
func says(l []api.Pair) bool {
	return slices.ContainsFunc(l, func(p api.Pair) bool { return p.Name == listItem })
}

// hint is p alone, of the counter of lists.
func hint(p api.Pair) []api.Pair {
	p.Name = listItem
	return []api.Pair{p}
}

// attribute is the Number of one.
func attribute(t *dom.Tree, i int, name string) (int, bool) {
	s, _ := t.Attr(i, name)
	return Number(s)
}

// ordered is where an ol's numbers begin, so that its first item's step leads to the first number.
func ordered(t *dom.Tree, x *computed.Styles, i int) api.Pair {
	start, said := attribute(t, i, "start")
	if _, reversed := t.Attr(i, "reversed"); reversed {
		if !said {
			start = Count(t, x, i)
		}
		return api.Pair{Rev: true, N: min(start, math.MaxInt32-1) + 1}
	}
	if !said {
		start = 1
	}
	return api.Pair{N: max(start, math.MinInt32+1) - 1}
}

// backward tells whether the innermost counter of lists is Rev.
func backward(s scope.Set) bool {
	for _, c := range slices.Backward(s) {
		if c.Name == listItem {
			return c.Rev
		}
	}
	return false
}
