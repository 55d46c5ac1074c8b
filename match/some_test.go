package match_test

import (
	"math/rand"
	"slices"
	"strings"
	"testing"

	"fleuron/api"
	"fleuron/dom"
	"fleuron/match"
	"fleuron/selector"
)

// words is a table, and whom selectors mean in it by the words of P8.1 and P8.2 alone.
type words []api.Raw

// family is the elements of i's Parent.
func (w words) family(i int) []int {
	var l []int
	for k, r := range w {
		if r.Tag != "" && r.Parent == w[i].Parent {
			l = append(l, k)
		}
	}
	return l
}

// before is the siblings ahead with a Tag, the nearest first.
func (w words) before(i int) []int {
	l := slices.DeleteFunc(w.family(i), func(k int) bool { return k >= i })
	slices.Reverse(l)
	return l
}

// attr is an attribute.
func (w words) attr(i int, name string) (string, bool) {
	for _, a := range w[i].Attrs {
		if a.Name == name {
			return a.Value, true
		}
	}
	return "", false
}

// one is One.
func (w words) one(i int, c compound) bool {
	if w[i].Tag == "" || c.Tag != "" && c.Tag != "*" && c.Tag != w[i].Tag {
		return false
	}
	for _, s := range c.Simple {
		if !w.simple(i, s) {
			return false
		}
	}
	return true
}

// simple is how it is of one of a compound.
func (w words) simple(i int, s simple) bool {
	v, ok := w.attr(i, s.Name)
	id, _ := w.attr(i, "id")
	class, _ := w.attr(i, "class")
	last := func(k int) bool {
		return !slices.ContainsFunc(w.family(k), func(j int) bool { return slices.Contains(w.before(j), k) })
	}
	index := w.index(i, s.Kind == selector.NthLast, s.List)
	switch s.Kind {
	case selector.ID:
		return id == s.Name
	case selector.Class:
		return slices.Contains(strings.Fields(class), s.Name)
	case selector.Attr:
		return ok && asked(v, s.Op, s.Value, s.Fold)
	case selector.First:
		return len(w.before(i)) == 0
	case selector.Last:
		return last(i)
	case selector.Only:
		return len(w.before(i)) == 0 && last(i)
	case selector.Empty:
		return !slices.ContainsFunc(w, func(r api.Raw) bool { return r.Parent == i && (r.Tag != "" || r.Text != "") })
	case selector.Root:
		return i == 0
	case selector.Nth, selector.NthLast:
		for x := range 100 {
			if index > 0 && index == s.A*x+s.B {
				return true
			}
		}
		return false
	case selector.Not:
		return !w.any(i, s.List)
	case selector.Is, selector.Where:
		return w.any(i, s.List)
	}
	return false
}

// any tells whether i is one of a list.
func (w words) any(i int, l []chain) bool {
	return slices.ContainsFunc(l, func(c chain) bool { return w.is(i, c) })
}

// index is Index.
func (w words) index(i int, last bool, of []chain) int {
	l := slices.DeleteFunc(w.family(i), func(k int) bool { return len(of) > 0 && !w.any(k, of) })
	if last {
		slices.Reverse(l)
	}
	if w[i].Tag == "" {
		return 0
	}
	return slices.Index(l, i) + 1
}

// is is Is.
func (w words) is(i int, c chain) bool {
	n := len(c.Parts)
	if n == 0 || len(c.Combs) != n-1 || !w.one(i, c.Parts[n-1]) {
		return false
	}
	if n == 1 {
		return true
	}
	var from []int
	switch c.Combs[n-2] {
	case " ":
		for k := w[i].Parent; k >= 0; k = w[k].Parent {
			from = append(from, k)
		}
	case ">":
		if i > 0 {
			from = []int{w[i].Parent}
		}
	case "+":
		from = w.before(i)
		from = from[:min(len(from), 1)]
	case "~":
		from = w.before(i)
	}
	ahead := chain{Parts: c.Parts[:n-1], Combs: c.Combs[:n-2]}
	return slices.ContainsFunc(from, func(k int) bool { return w.is(k, ahead) })
}

// maker makes tables and selectors by chance.
type maker struct {
	*rand.Rand
}

// of is one of some texts.
func (m maker) of(l ...string) string { return l[m.Intn(len(l))] }

// table is one of n nodes.
func (m maker) table(n int) words {
	l := words{element(-1, m.of("a", "b"))}
	for len(l) < n {
		p := m.Intn(len(l))
		switch {
		case l[p].Tag == "":
			p = l[p].Parent
		case m.Intn(3) == 0:
			p = max(0, l[len(l)-1].Parent)
		}
		if m.Intn(5) == 0 {
			l = append(l, text(p, m.of("", "", "x")))
			continue
		}
		r := element(p, m.of("a", "b", "c"))
		for _, name := range []string{"id", "class", "x"} {
			if m.Intn(2) == 0 {
				r.Attrs = append(r.Attrs, api.Attr{Name: name, Value: m.value()})
			}
		}
		l = append(l, r)
	}
	return l
}

// value is an attribute's.
func (m maker) value() string { return m.of("p", "q", "p q", "p-q", "P", "pq", " q", "") }

// list is some selectors, at most that many deep.
func (m maker) list(depth int) []chain {
	var l []chain
	for range m.Intn(4) {
		l = append(l, m.chain(depth))
	}
	return l
}

// chain is one.
func (m maker) chain(depth int) chain {
	c := chain{Parts: []compound{m.compound(depth)}, Pseudo: m.Intn(7)}
	for m.Intn(2) == 0 && len(c.Parts) < 5 {
		c.Parts = append(c.Parts, m.compound(depth))
		c.Combs = append(c.Combs, m.of(" ", " ", ">", "+", "~", "~"))
	}
	switch m.Intn(40) {
	case 0:
		c.Combs = append(c.Combs, " ")
	case 1:
		c.Parts = append(c.Parts, compound{})
	case 2:
		c.Parts = nil
	case 3:
		if len(c.Combs) > 0 {
			c.Combs[m.Intn(len(c.Combs))] = m.of("", "?", "> ", "||")
		}
	}
	return c
}

// compound is one of a node.
func (m maker) compound(depth int) compound {
	c := compound{Tag: m.of("", "", "*", "a", "b", "c")}
	for m.Intn(5) < 2 {
		c.Simple = append(c.Simple, m.simple(depth))
	}
	return c
}

// simple is one of any kind.
func (m maker) simple(depth int) simple {
	s := simple{Kind: 1 + m.Intn(13), Name: m.of("p", "q"), A: m.Intn(7) - 3, B: m.Intn(7) - 3}
	switch s.Kind {
	case selector.Attr:
		s.Name = m.of("id", "class", "x", "y")
		s.Op = m.of("", "=", "~=", "|=", "^=", "$=", "*=", "?")
		s.Value = m.value()
		s.Fold = m.Intn(2) == 0
	case selector.Nth, selector.NthLast, selector.Not, selector.Is, selector.Where:
		if depth > 0 {
			s.List = m.list(depth - 1)
		}
	}
	if m.Intn(60) == 0 {
		s.Kind = m.Intn(40) - 13
	}
	return s
}

func TestSomeOfAllKinds(t *testing.T) { // P8.1 P8.2
	m := maker{rand.New(rand.NewSource(8))}
	found, all := 0, 0
	for range 1500 {
		w := m.table(1 + m.Intn(18))
		x, e := dom.New(w)
		if e != api.OK {
			t.Fatalf("New(%v) = %d", w, e)
		}
		for range 8 {
			l := m.list(3)
			var want []int
			for i := range w {
				agrees(t, x, w, i, l)
				if w.any(i, l) {
					want = append(want, i)
				}
			}
			same(t, "All", match.All(x, l), want)
			if t.Failed() {
				t.Fatalf("table: %v, selectors: %v", w, l)
			}
			found += len(want)
			all += len(w)
		}
	}
	if found < all/10 || found > all*9/10 {
		t.Errorf("%d of %d nodes are meant", found, all)
	}
}

// agrees holds what is told of i against the words.
func agrees(t *testing.T, x *dom.Tree, w words, i int, l []chain) {
	t.Helper()
	for _, c := range l {
		if got := match.Is(x, i, c); got != w.is(i, c) {
			t.Errorf("Is(%d) of %v = %v", i, c, got)
		}
		for _, p := range c.Parts {
			if got := match.One(x, i, p); got != w.one(i, p) {
				t.Errorf("One(%d) of %v = %v", i, p, got)
			}
		}
	}
	for _, last := range []bool{false, true} {
		if got, want := match.Index(x, i, last, l), w.index(i, last, l); got != want {
			t.Errorf("Index(%d, %v) of %v = %d, want %d", i, last, l, got, want)
		}
	}
}
