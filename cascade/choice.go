package cascade

import (
	"iter"
	"slices"

	"fleuron/api"
	"fleuron/dom"
	"fleuron/match"
	"fleuron/selector"
)

// choice is a selector of a rule that says anything.
type choice struct {
	selector selector.Complex
	weight   api.Weight
	keys     []Key // the bare ones of the rule's declarations that may win; all its choices share them
}

// target is what a selector asks first. Those of other targets than a node's need not be asked.
type target struct {
	pseudo int
	tag    string
}

// anyTag is the tag of a target whose selector asks for none.
const anyTag = ""

// targetOf is a selector's.
func targetOf(c selector.Complex) target {
	tag := c.Parts[len(c.Parts)-1].Tag
	if tag == "*" {
		tag = anyTag
	}
	return target{c.Pseudo, tag}
}

// meant is the choices that mean a node, and that pseudo-element of it, one by one.
func (s *Sheet) meant(t *dom.Tree, i, pseudo int) iter.Seq[choice] {
	return func(yield func(choice) bool) {
		n, _ := t.Node(i)
		if s == nil || n.Tag == "" {
			return
		}
		for _, tag := range [...]string{anyTag, n.Tag} {
			for _, c := range s.choices[target{pseudo, tag}] {
				if match.Is(t, i, c.selector) && !yield(c) {
					return
				}
			}
		}
	}
}

// aimed is the choices that may mean that pseudo-element of any node of a tree.
func (s *Sheet) aimed(t *dom.Tree, pseudo int) []choice {
	if s == nil {
		return nil
	}
	l := slices.Clone(s.choices[target{pseudo, anyTag}])
	seen := map[string]struct{}{anyTag: {}}
	for i := range t.Len() {
		n, _ := t.Node(i)
		if _, ok := seen[n.Tag]; !ok {
			seen[n.Tag] = struct{}{}
			l = append(l, s.choices[target{pseudo, n.Tag}]...)
		}
	}
	return l
}
