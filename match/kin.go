package match

import (
	"slices"

	"fleuron/api"
	"fleuron/dom"
)

// none is the index of no node, as the Parent of the first has it.
const none = -1

// kin is a tree, and the families in it that were looked up already.
type kin struct {
	tree     *dom.Tree
	families map[int][]int // by Parent
}

// node is one; an empty one, which has no Tag, if there is none.
func (k *kin) node(i int) api.Raw {
	n, _ := k.tree.Node(i)
	return n
}

// element tells whether i is one.
func (k *kin) element(i int) bool { return k.node(i).Tag != "" }

// parent is what an element is in, or none.
func (k *kin) parent(i int) int { return k.node(i).Parent }

// family is an element and its siblings with a Tag, rising, and where it stands among them.
func (k *kin) family(i int) (l []int, at int) {
	parent := k.parent(i)
	l, ok := k.families[parent]
	if !ok {
		l = k.within(parent)
		k.families[parent] = l
	}
	at, _ = slices.BinarySearch(l, i)
	return l, at
}

// within is the elements of one; of none, the first node.
func (k *kin) within(parent int) []int {
	if parent == none {
		return []int{0}
	}
	return k.tree.Elements(parent)
}

// place is an element's among its family, 1 the first from that end.
func (k *kin) place(i int, last bool) int {
	l, at := k.family(i)
	if last {
		return len(l) - at
	}
	return at + 1
}

// beside is the next one of an element's family on the way to that end, or none.
func (k *kin) beside(i int, last bool) int {
	l, at := k.family(i)
	switch {
	case last && at+1 < len(l):
		return l[at+1]
	case !last && at > 0:
		return l[at-1]
	}
	return none
}

// empty tells whether an element has nothing in it but texts that are empty.
func (k *kin) empty(i int) bool {
	for _, kid := range k.tree.Kids(i) {
		if n := k.node(kid); n.Tag != "" || n.Text != "" {
			return false
		}
	}
	return true
}
