package quote_test

import (
	"slices"
	"testing"

	"fleuron/api"
)

// pairs is the promise's, word by word: two by two, what is left over is none.
func pairs(st api.Style) [][2]string {
	l := st.Quotes
	if st.Auto {
		l = []string{"“", "”", "‘", "’"}
	}
	var out [][2]string
	for ; len(l) >= 2; l = l[2:] {
		out = append(out, [2]string{l[0], l[1]})
	}
	return out
}

// mark is one of the pair at a depth, the last one of fewer.
func mark(st api.Style, depth, which int) string {
	l := pairs(st)
	for i, p := range l {
		if i == depth || i == len(l)-1 {
			return p[which]
		}
	}
	return ""
}

// do is Do, word by word; depths are far from the last one.
func do(st api.Style, depth, kind int) (string, int) {
	if depth < 0 {
		depth = 0
	}
	opens := kind == api.OpenQuote || kind == api.NoOpen
	closes := kind == api.CloseQuote || kind == api.NoClose
	text := ""
	switch {
	case opens:
		if kind == api.OpenQuote {
			text = mark(st, depth, 0)
		}
		return text, depth + 1
	case closes && depth == 0:
		return "", 0
	case closes:
		if kind == api.CloseQuote {
			text = mark(st, depth-1, 1)
		}
		return text, depth - 1
	}
	return "", depth
}

func TestAllOfFewMarks(t *testing.T) { // P17.1, P17.2
	names := []string{"a", "b", "c", "d", "e", "f", "g", "h", "i"}
	for n := range len(names) + 1 {
		for _, st := range []api.Style{of(names[:n]...), auto(names[:n]...)} {
			for depth := -3; depth < 9; depth++ {
				for kind := -2; kind < 12; kind++ {
					text, next := do(st, depth, kind)
					does(t, st, depth, kind, text, next)
				}
			}
		}
	}
}

func TestAllOfFewKinds(t *testing.T) { // P17.1, P17.2: Depth of all lists of up to six of the four kinds, and another
	var fill func(l []int, depth int)
	fill = func(l []int, depth int) {
		ends(t, depth, l...)
		if len(l) == 6 {
			return
		}
		for _, kind := range append(kinds(), api.Words) {
			_, next := do(api.Style{}, depth, kind)
			fill(append(slices.Clone(l), kind), next)
		}
	}
	fill(nil, 0)
}
