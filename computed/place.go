package computed

import (
	"fleuron/api"
	"fleuron/prop"
)

// place is what has a style: a node, and a pseudo-element of it.
type place [2]int

// learn works out the styles of that pseudo-element of all elements, unless it did so already.
func (x *Styles) learn(pseudo int) {
	if _, ok := x.known[place{0, pseudo}]; ok {
		return
	}
	if pseudo != api.Self {
		x.learn(api.Self)
	}
	// A Parent stands ahead of its Kids, so it is known when they ask.
	for i, won := range x.sheet.All(x.tree, pseudo) {
		n, _ := x.tree.Node(i)
		if n.Tag == "" {
			continue
		}
		from := place{i, api.Self}
		if pseudo == api.Self {
			from = place{n.Parent, api.Self}
		}
		parent := x.parent(from)
		x.known[place{i, pseudo}] = Of(won, pseudo, parent)
	}
}

// parent is the style of what is inherited from: of none, as the first node has it, what holds at first.
func (x *Styles) parent(from place) api.Style {
	s, ok := x.known[from]
	if !ok {
		return prop.Start()
	}
	return s
}
