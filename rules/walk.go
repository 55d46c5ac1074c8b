package rules

import (
	"fleuron/api"
)

// walk is nodes, and the place that goes on over them.
type walk struct {
	nodes []api.Node
	place int
}

// kind tells whether a node is of one.
type kind func(n api.Node) bool

// ended tells whether the place is the end.
func (w *walk) ended() bool { return w.place == len(w.nodes) }

// at tells whether a node of the kind is at the place.
func (w *walk) at(is kind) bool { return !w.ended() && is(w.nodes[w.place]) }

// pass goes on behind the nodes of the kind.
func (w *walk) pass(is kind) {
	for w.at(is) {
		w.place++
	}
}

// until goes on to the next node of the kind, or to the end, and is what is passed.
func (w *walk) until(is kind) []api.Node {
	from := w.place
	for !w.ended() && !w.at(is) {
		w.place++
	}
	return w.nodes[from:w.place]
}
