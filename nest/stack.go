package nest

import (
	"fleuron/api"
)

// stack is the blocks that are open, the innermost last, each with what was found in it.
type stack []api.Node

// closer is the sign that closes what a token opens; none of one that opens nothing.
func closer(t api.Token) string {
	switch {
	case t.Kind == api.Function:
		return ")"
	case t.Kind != api.Open:
		return ""
	}
	switch t.Text {
	case "(":
		return ")"
	case "[":
		return "]"
	case "{":
		return "}"
	}
	return ""
}

// closes tells whether a token is the end of the innermost block.
func (s stack) closes(t api.Token) bool {
	return len(s) > 0 && t.Kind == api.Close && t.Text == closer(s[len(s)-1].Token)
}

// pop closes the innermost block.
func (s *stack) pop() api.Node {
	last := len(*s) - 1
	n := (*s)[last]
	*s = (*s)[:last]
	return n
}

// add lays a node into the innermost block, if it may be so deep.
func (s *stack) add(n api.Node) {
	open := *s
	if len(open) < api.MaxDeep {
		top := &open[len(open)-1]
		top.Kids = append(top.Kids, n)
	}
}
