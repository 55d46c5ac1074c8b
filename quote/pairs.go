package quote

import (
	"math"

	"fleuron/api"
)

// pair is a mark that opens, and the one that closes.
type pair [2]string

// marks is a style's, its own list: not to be changed, nor handed out.
func marks(st api.Style) []string {
	if st.Auto {
		return []string{"\u201c", "\u201d", "\u2018", "\u2019"}
	}
	return st.Quotes
}

// pairAt is the pair at a depth of 0 or more, the last one of fewer; empty without any.
func pairAt(st api.Style, depth int) pair {
	l := marks(st)
	pairs := len(l) / 2
	if pairs == 0 {
		return pair{}
	}
	first := 2 * min(depth, pairs-1)
	return pair{l[first], l[first+1]}
}

// following is the depth behind a kind, at a depth of 0 or more.
func following(depth, kind int) int {
	switch kind {
	case api.OpenQuote, api.NoOpen:
		return min(depth, math.MaxInt32-1) + 1
	case api.CloseQuote, api.NoClose:
		return max(depth-1, 0)
	}
	return depth
}
