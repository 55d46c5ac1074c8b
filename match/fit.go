package match

import (
	"strings"

	"fleuron/anb"
	"fleuron/points"
	"fleuron/selector"
)

// fits tells whether i is an element, and all that a compound says of it without lists is so.
func (k *kin) fits(c *selector.Compound, i int) bool {
	tag := k.node(i).Tag
	if tag == "" || c.Tag != "" && c.Tag != "*" && c.Tag != tag {
		return false
	}
	for at := range c.Simple {
		s := &c.Simple[at]
		if !hangs(s) && !k.fitsOne(s, i) {
			return false
		}
	}
	return true
}

// hangs tells whether s hangs on a list; every so many of all does not.
func hangs(s *selector.Simple) bool {
	switch s.Kind {
	case selector.Not, selector.Is, selector.Where:
		return true
	case selector.Nth, selector.NthLast:
		return len(s.List) > 0
	}
	return false
}

// fitsOne tells whether what a simple one without a list says of an element is so.
func (k *kin) fitsOne(s *selector.Simple, i int) bool {
	switch s.Kind {
	case selector.ID:
		id, ok := k.tree.Attr(i, "id")
		return ok && id == s.Name
	case selector.Class:
		return k.tree.Has(i, s.Name)
	case selector.Attr:
		v, ok := k.tree.Attr(i, s.Name)
		return ok && valued(s, v)
	case selector.First:
		return k.place(i, false) == 1
	case selector.Last:
		return k.place(i, true) == 1
	case selector.Only:
		return k.place(i, false) == 1 && k.place(i, true) == 1
	case selector.Empty:
		return k.empty(i)
	case selector.Root:
		return i == 0
	case selector.Nth, selector.NthLast:
		return anb.Match(s.A, s.B, k.place(i, s.Kind == selector.NthLast))
	}
	return false
}

// valued tells whether an attribute's value v is as s has it.
func valued(s *selector.Simple, v string) bool {
	value := s.Value
	if s.Fold {
		v, value = points.Lower(v), points.Lower(value)
	}
	switch s.Op {
	case "":
		return true
	case "=":
		return v == value
	case "~=":
		return hasWord(v, value)
	case "|=":
		return v == value || strings.HasPrefix(v, value+"-")
	case "^=":
		return value != "" && strings.HasPrefix(v, value)
	case "$=":
		return value != "" && strings.HasSuffix(v, value)
	case "*=":
		return value != "" && strings.Contains(v, value)
	}
	return false
}

// hasWord tells whether one of v's words is this one. A word is neither empty nor has White, so of such it is false.
func hasWord(v, word string) bool {
	for w := range strings.FieldsFuncSeq(v, points.White) {
		if w == word {
			return true
		}
	}
	return false
}
