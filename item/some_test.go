package item_test

import (
	"math/rand"
	"slices"
	"strconv"
	"strings"
	"testing"

	"fleuron/api"
	"fleuron/computed"
	"fleuron/dom"
	"fleuron/item"
	"fleuron/scope"
)

// maker makes tables, sheets and counters by chance.
type maker struct {
	*rand.Rand
}

// of is one of some texts.
func (m maker) of(l ...string) string { return l[m.Intn(len(l))] }

// number is an attribute's value, mostly a number.
func (m maker) number() string {
	n := strconv.Itoa(m.Intn(41) - 20)
	if m.Intn(4) == 0 {
		n = m.of("", "-", "x", "2147483646", "2147483647", "2147483648", "-2147483647", "-2147483648", "-2147483649", "99999999999999999999999", "-99999999999999999999999")
	}
	return m.of("", "", "", " ", "\n\t", "+", "\f") + n + m.of("", "", " ", "x", ".5")
}

// node is an element with attributes.
func (m maker) node(parent int) api.Raw {
	r := element(parent, m.of("ol", "ol", "OL", "ul", "menu", "li", "li", "Li", "p"), "class", m.of("p", "q", "p q"))
	for _, name := range []string{"start", "reversed", "value", "START"} {
		if m.Intn(2) == 0 {
			r.Attrs = append(r.Attrs, api.Attr{Name: name, Value: m.number()})
		}
	}
	return r
}

// table is one of n nodes.
func (m maker) table(n int) []api.Raw {
	l := []api.Raw{m.node(-1)}
	for len(l) < n {
		p := m.Intn(len(l))
		switch {
		case l[p].Tag == "":
		case m.Intn(6) == 0:
			l = append(l, text(p))
		default:
			l = append(l, m.node(p))
		}
	}
	return l
}

// counters is some of a property.
func (m maker) counters(l ...string) string {
	out := ""
	for range 1 + m.Intn(3) {
		out += m.of(append(l, "a", "b", "LIST-ITEM", "list-item")...) + m.of("", " 2", " -3") + " "
	}
	return out
}

// sheet is some rules.
func (m maker) sheet() string {
	out := m.of("", "li{display:list-item}", "*{display:list-item}")
	for range m.Intn(6) {
		out += m.of("ol", "ul", "menu", "li", "p", ".p", ".q", "ol li", "*::before", "li:first-child") + "{"
		for range 1 + m.Intn(2) {
			out += m.of(
				"display:"+m.of("list-item", "list-item", "block", "none", "inherit")+";",
				"counter-reset:"+m.counters("reversed(a)", "reversed(list-item)")+";",
				"counter-set:"+m.counters()+";",
				"counter-increment:"+m.counters()+";")
		}
		out += "}"
	}
	return out
}

// set is some counters.
func (m maker) set() scope.Set {
	var out scope.Set
	for range m.Intn(6) {
		out = append(out, scope.Counter{Name: m.of("a", "b", "list-item", "list-item", ""), Of: m.Intn(4), N: m.Intn(9), Rev: m.Intn(2) == 0})
	}
	return out
}

// numberOf is Number, word by word, of texts with a number of less than 24 digits.
func numberOf(s string) (int, bool) {
	s = strings.TrimLeft(s, " \n\t")
	unsigned := strings.TrimPrefix(s, "+")
	if unsigned == s {
		unsigned = strings.TrimPrefix(s, "-")
	}
	digits := unsigned[:len(unsigned)-len(strings.TrimLeft(unsigned, "0123456789"))]
	if digits == "" {
		return 0, false
	}
	n, _ := strconv.ParseInt(s[:len(s)-len(unsigned)]+digits, 10, 32) // of what is out of range, the nearest
	return int(n), true
}

// attribute is the Number of one, by numberOf.
func attribute(x *dom.Tree, i int, name string) (int, bool) {
	s, _ := x.Attr(i, name)
	return numberOf(s)
}

// display is whether a node is an item.
func display(y *computed.Styles, i int) bool {
	st, _ := y.Style(i, api.Self)
	return st.Display == "list-item"
}

// countOf is Count, word by word.
func countOf(x *dom.Tree, y *computed.Styles, i int) int {
	n := 0
	for k := 1; k < x.Len(); k++ { // the first is in none
		raw, _ := x.Node(k)
		if raw.Tag != "" && raw.Parent == i && display(y, k) {
			n++
		}
	}
	return n
}

// named is whether there is a pair of the name.
func named(l []api.Pair) bool {
	for _, p := range l {
		if p.Name == "list-item" {
			return true
		}
	}
	return false
}

// hintsOf is Hints, word by word.
func hintsOf(x *dom.Tree, y *computed.Styles, i int) (reset, set []api.Pair) {
	raw, _ := x.Node(i)
	st, _ := y.Style(i, api.Self)
	_, reversed := x.Attr(i, "reversed")
	start, said := attribute(x, i, "start")
	value, is := attribute(x, i, "value")
	switch {
	case slices.Contains([]string{"ol", "ul", "menu"}, raw.Tag) && named(st.Reset):
	case raw.Tag == "ol" && reversed && said:
		reset = rev(int(min(int64(start)+1, most)))
	case raw.Tag == "ol" && reversed:
		reset = rev(countOf(x, y, i) + 1)
	case raw.Tag == "ol" && said:
		reset = one(int(max(int64(start)-1, least)))
	case raw.Tag == "ol" || raw.Tag == "ul" || raw.Tag == "menu":
		reset = one(0)
	case raw.Tag == "li" && !named(st.Set) && is:
		set = one(value)
	}
	return reset, set
}

// stepOf is Step, word by word; 0 is none.
func stepOf(st api.Style, s scope.Set) int {
	if st.Display != "list-item" || named(st.Add) {
		return 0
	}
	step := 1
	for _, c := range s {
		if c.Name == "list-item" {
			step = 1
			if c.Rev {
				step = -1
			}
		}
	}
	return step
}

func TestSomeNumbers(t *testing.T) { // P16.1
	m := maker{rand.New(rand.NewSource(61))}
	for range 20000 {
		s := m.number()
		want, ok := numberOf(s)
		reads(t, s, want, ok)
	}
}

func TestSomeOfAllKinds(t *testing.T) { // P16.1 to P16.3
	m := maker{rand.New(rand.NewSource(16))}
	hinted, stepped, all := 0, 0, 0
	for range 2000 {
		raw, author := m.table(1+m.Intn(14)), m.sheet()
		x, y := page(t, author, raw...)
		for i := -1; i <= len(raw); i++ {
			counts(t, x, y, i, countOf(x, y, i))
			reset, set := hintsOf(x, y, i)
			hints(t, x, y, i, reset, set)
			st, _ := y.Style(i, api.Self)
			s := m.set()
			step := stepOf(st, s)
			steps(t, st, s, step)
			all++
			hinted += len(reset) + len(set)
			stepped += step * step
		}
		if t.Failed() {
			t.Fatalf("table: %v, author: %s", raw, author)
		}
	}
	if hinted < all/5 || hinted > all*4/5 || stepped < all/5 || stepped > all*4/5 {
		t.Errorf("of %d nodes %d have hints, %d a step", all, hinted, stepped)
	}
	if n := item.Count(nil, nil, 0); n != 0 {
		t.Errorf("Count of nothing is %d", n)
	}
}
