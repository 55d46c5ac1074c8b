package selector

import (
	"fleuron/api"
	"fleuron/points"
)

// walk is nodes, and the place that goes on over them.
type walk struct {
	nodes []api.Node
	place int
	depth int // how many functions the nodes are within
}

// ended tells whether the place is the end.
func (w *walk) ended() bool { return w.place >= len(w.nodes) }

// ahead is the node that is n nodes on; an empty one, which is of no kind that is looked for, beyond the last one.
func (w *walk) ahead(n int) api.Node {
	if w.place+n >= len(w.nodes) {
		return api.Node{}
	}
	return w.nodes[w.place+n]
}

// kind is that of the node that is n nodes on.
func (w *walk) kind(n int) int { return w.ahead(n).Token.Kind }

// kinds is those of the two nodes at the place.
func (w *walk) kinds() [2]int { return [2]int{w.kind(0), w.kind(1)} }

// delim is the sign that is n nodes on, if that is a Delim.
func (w *walk) delim(n int) string {
	t := w.ahead(n).Token
	if t.Kind != api.Delim {
		return ""
	}
	return t.Text
}

// take is the node at the place, and goes on behind it.
func (w *walk) take() api.Node {
	n := w.ahead(0)
	w.place++
	return n
}

// ident takes an Ident, if one is at the place.
func (w *walk) ident() (string, bool) {
	if w.kind(0) != api.Ident {
		return "", false
	}
	return w.take().Token.Text, true
}

// lower takes an Ident likewise, and makes it small.
func (w *walk) lower() (string, bool) {
	text, ok := w.ident()
	return points.Lower(text), ok
}

// white goes on behind White, and tells whether there was some. A comment parts it, so there may be several.
func (w *walk) white() bool {
	from := w.place
	for w.kind(0) == api.White {
		w.place++
	}
	return w.place > from
}
