package dom

import (
	"fleuron/api"
	"fleuron/points"
)

// there tells whether the table has a node i.
func (t *Tree) there(i int) bool { return i >= 0 && i < t.Len() }

// element tells whether it has one, and that has a Tag.
func (t *Tree) element(i int) bool { return t.there(i) && t.nodes[i].raw.Tag != "" }

// fits tells whether raw may stand behind the nodes that are there.
func (t *Tree) fits(raw api.Raw) bool {
	if t.Len() == 0 {
		return raw.Parent == none && raw.Tag != ""
	}
	return t.element(raw.Parent) && t.Depth(raw.Parent) < api.MaxDepth
}

// add puts one that fits behind the nodes that are there.
func (t *Tree) add(raw api.Raw) {
	n := node{raw: plain(raw), depth: t.Depth(raw.Parent) + 1, ahead: none}
	if t.there(raw.Parent) {
		parent := &t.nodes[raw.Parent]
		n.ahead = t.lastElement(parent.kids)
		parent.kids = append(parent.kids, t.Len())
	}
	t.nodes = append(t.nodes, n)
}

// lastElement is the last one of kids that has a Tag, or none.
func (t *Tree) lastElement(kids []int) int {
	if len(kids) == 0 {
		return none
	}
	last := kids[len(kids)-1]
	if t.element(last) {
		return last
	}
	return t.nodes[last].ahead
}

// plain is raw as the tree has it.
func plain(raw api.Raw) api.Raw {
	n := api.Raw{Parent: raw.Parent, Tag: points.Lower(raw.Tag), Text: raw.Text}
	if n.Tag != "" {
		n.Attrs = firsts(raw.Attrs)
	}
	return n
}

// firsts is of the attributes of one name the first.
func firsts(l []api.Attr) []api.Attr {
	seen := make(map[string]struct{}, len(l))
	var first []api.Attr
	for _, a := range l {
		a.Name = points.Lower(a.Name)
		if _, ok := seen[a.Name]; ok {
			continue
		}
		seen[a.Name] = struct{}{}
		first = append(first, a)
	}
	return first
}
