package computed_test

import (
	"math/rand"
	"testing"

	"fleuron/api"
	"fleuron/cascade"
	"fleuron/computed"
	"fleuron/dom"
	"fleuron/prop"
)

// maker makes tables and rules by chance.
type maker struct {
	*rand.Rand
}

// of is one of some texts.
func (m maker) of(l ...string) string { return l[m.Intn(len(l))] }

// table is one of n nodes.
func (m maker) table(n int) []api.Raw {
	l := []api.Raw{element(-1, m.of("a", "b"))}
	for len(l) < n {
		p := m.Intn(len(l))
		switch {
		case l[p].Tag == "":
			p = l[p].Parent
		case m.Intn(6) == 0:
			l = append(l, text(p, "x"))
			continue
		}
		l = append(l, element(p, m.of("a", "b", "B", "c"), "class", m.of("p", "q", "p q")))
	}
	return l
}

// value is one of a property, mostly.
func (m maker) value(name string) string {
	if m.Intn(2) == 0 {
		return m.of("inherit", "initial", "unset", "INHERIT", "5")
	}
	switch name {
	case "color":
		return m.of("red", "blue", "green", "gray")
	case "content":
		return m.of("normal", "none", "'x'", "attr(y) 'z'", "counter(c)", "open-quote")
	case "display":
		return m.of("none", "block", "inline", "list-item", "flex")
	case "list-style-type":
		return m.of("none", "circle", "'-'", "decimal")
	case "quotes":
		return m.of("none", "auto", "'<' '>'", "'(' ')' '[' ']'", "'x'")
	}
	return m.of("none", "c", "c 2 d", "reversed(c)", "d -1")
}

// sheet is some rules.
func (m maker) sheet() string {
	out := ""
	for range m.Intn(12) {
		out += m.of("*", "a", "b", "c", ".p", ".q", "a b", "a>.p", "b~c", ":empty", "a:nth-child(2)", ":not(.p)")
		if m.Intn(2) == 0 {
			out += m.of("::before", "::after", "::marker", "::first-letter", "::first-line", ", *::before", ", *::marker, b")
		}
		out += "{"
		for range m.Intn(6) {
			name := m.of(names()...)
			out += name + ":" + m.value(name) + m.of("", "", "", "!important") + ";"
		}
		out += "}"
	}
	return out
}

// style is Style, word by word.
func style(s *cascade.Sheet, x *dom.Tree, i, pseudo int) api.Style {
	parent := start()
	n, _ := x.Node(i)
	switch {
	case pseudo != 0:
		parent = style(s, x, i, 0)
	case n.Parent >= 0:
		parent = style(s, x, n.Parent, 0)
	}
	return of(s.Won(x, i, pseudo), pseudo, parent)
}

func TestSomeOfAllKinds(t *testing.T) { // P14.1, P14.2
	m := maker{rand.New(rand.NewSource(14))}
	starts, all := 0, 0
	for range 1500 {
		raw := m.table(1 + m.Intn(14))
		x := tree(t, raw...)
		texts := [2]string{m.sheet(), m.sheet()}
		s := cascade.New(read(t, texts[0]), read(t, texts[1]))
		y := computed.New(s, x)
		for range 6 * len(raw) {
			i, pseudo := m.Intn(len(raw)+2)-1, m.Intn(8)-1
			if n, _ := x.Node(i); n.Tag == "" || pseudo < 0 || pseudo > 5 {
				none(t, y, i, pseudo)
				continue
			}
			want := style(s, x, i, pseudo)
			holds(t, y, i, pseudo, want)
			all++
			if same(want, start()) {
				starts++
			}
		}
		if t.Failed() {
			t.Fatalf("table: %v, agent: %s, author: %s", raw, texts[0], texts[1])
		}
	}
	if starts < all/20 || starts > all/2 {
		t.Errorf("%d of %d hold what holds at first", starts, all)
	}
}

func TestSomeOf(t *testing.T) { // P14.1
	m := maker{rand.New(rand.NewSource(41))}
	styles := []api.Style{{}, start(), full("a"), flags(full("b"), true, false, false), flags(full("c"), false, true, true)}
	for range 20000 {
		var won []prop.Value
		for range m.Intn(7) {
			name := m.of(append(names(), "x", "COLOR")...)
			won = append(won, prop.Value{Name: name, Wide: m.Intn(6) - 1, Style: styles[m.Intn(len(styles))]})
		}
		pseudo, parent := m.Intn(8)-1, styles[m.Intn(len(styles))]
		tells(t, won, pseudo, parent, of(won, pseudo, parent))
		if t.Failed() {
			return
		}
	}
}
