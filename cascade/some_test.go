package cascade_test

import (
	"math/rand"
	"reflect"
	"slices"
	"testing"

	"fleuron/api"
	"fleuron/cascade"
	"fleuron/dom"
	"fleuron/match"
	"fleuron/prop"
	"fleuron/selector"
)

// said is a declaration, and the selectors of its rule.
type said struct {
	decl   api.Decl
	list   []selector.Complex
	origin int
	at     int
}

// words is a sheet as P13.1's words have it: all its declarations, one behind the other.
type words []said

// wordsOf is that of two lists of rules.
func wordsOf(agent, author []api.Rule) words {
	var w words
	for side, l := range [][]api.Rule{agent, author} {
		for _, r := range l {
			list, e := selector.Parse(r.Prelude)
			if r.At != "" || !r.Block || e != api.OK {
				continue
			}
			for _, d := range r.Decls {
				origin := side
				if d.Important {
					origin = 3 - side
				}
				w = append(w, said{d, list, origin, len(w)})
			}
		}
	}
	return w
}

// key is a declaration's, if it is of a node and a pseudo-element.
func (d said) key(x *dom.Tree, i, pseudo int) (key, bool) {
	var weights []api.Weight
	for _, c := range d.list {
		if c.Pseudo == pseudo && match.Is(x, i, c) {
			weights = append(weights, selector.Weigh(c))
		}
	}
	if len(weights) == 0 {
		return key{}, false
	}
	greatest := slices.MaxFunc(weights, func(a, b api.Weight) int { return slices.Compare(a[:], b[:]) })
	return key{Origin: d.origin, Weight: greatest, At: d.at}, true
}

// row is a key's numbers.
func row(k key) []int { return append([]int{k.Origin}, append(k.Weight[:], k.At)...) }

// told is Won, Keys and Any.
func (w words) told(x *dom.Tree, i, pseudo int) ([]prop.Value, map[string]key, bool) {
	values, keys, of := map[string]prop.Value{}, map[string]key{}, false
	for _, d := range w {
		k, ok := d.key(x, i, pseudo)
		if !ok {
			continue
		}
		of = true
		v, e := prop.Parse(d.decl)
		if e != api.OK {
			continue
		}
		if best, ok := keys[v.Name]; !ok || slices.Compare(row(best), row(k)) < 0 {
			keys[v.Name], values[v.Name] = k, v
		}
	}
	var won []prop.Value
	for _, name := range prop.Names() {
		if v, ok := values[name]; ok {
			won = append(won, v)
		}
	}
	return won, keys, of
}

// maker makes tables and rules by chance.
type maker struct {
	*rand.Rand
}

// of is one of some texts.
func (m maker) of(l ...string) string { return l[m.Intn(len(l))] }

// table is one of n nodes.
func (m maker) table(n int) []api.Raw {
	l := []api.Raw{element(-1, m.of("a", "b"))}
	for len(l) < n {
		p := m.Intn(len(l))
		switch {
		case l[p].Tag == "":
			p = l[p].Parent
		case m.Intn(6) == 0:
			l = append(l, text(p, "x"))
			continue
		}
		l = append(l, element(p, m.of("a", "b", "B", "c", "*"), m.of("id", "class"), m.of("p", "q", "p q"), m.of("class", "x"), m.of("p", "q")))
	}
	return l
}

// compound is one of a node.
func (m maker) compound() string {
	out := m.of("", "*", "a", "b", "C", `\*`)
	for out == "" || m.Intn(3) == 0 {
		out += m.of("#p", "#q", ".p", ".q", ".p.q", "[x]", "[x=q]", ":first-child", ":not(.p)", ":is(#nosuch, a, .q)", ":where(.p, b)", ":nth-child(2n+1 of .p, .q)", ":is()")
	}
	return out
}

// selector is one, mostly.
func (m maker) selector() string {
	out := m.compound()
	for m.Intn(3) == 0 {
		out += m.of(" ", " ", ">", "+", "~") + m.compound()
	}
	switch m.Intn(60) {
	case 0:
		out += m.of(" >", ":nosuch", "::nosuch", "]", "5")
	case 1:
		return m.of("::before", "::marker", "5", "", "'a'")
	}
	return out + m.of("", "", "", "::before", ":after", "::marker", "::first-letter", ":first-line")
}

// decl is a declaration, mostly.
func (m maker) decl() string {
	value := m.of("red", "blue", "none", "auto", "block", "'x'", "'x' 'y'", "a 1", "inherit", "Unset", "5", "none none", "")
	return m.of("color", "COLOR", "content", "counter-increment", "counter-reset", "counter-set", "display", "list-style-type", "quotes", "nosuch") + m.of(":", " : ", ":", " ") + value + m.of("", "", "", "!important", " ! IMPORTANT", "!x")
}

// sheet is some rules.
func (m maker) sheet() string {
	out := ""
	for range m.Intn(9) {
		out += m.of("", "", "", "", "", "", "", "@x ") + m.selector()
		for m.Intn(2) == 0 {
			out += "," + m.selector()
		}
		out += "{"
		for range m.Intn(5) {
			out += m.decl() + ";"
		}
		out += "}"
	}
	return out
}

// bend makes of rules what nobody reads.
func (m maker) bend(l []api.Rule) []api.Rule {
	for i := range l {
		switch m.Intn(30) {
		case 0:
			l[i].At = m.of("x", "media", " ")
		case 1:
			l[i].Block = false
		case 2:
			l[i].At = ""
		case 3:
			l = append(l, l[i])
		}
	}
	return l
}

// tally counts what was told, so that it is seen whether all of it comes to pass.
type tally struct {
	asked, of, refused int
	origins            [4]int // of those that won
}

func TestSomeOfAllKinds(t *testing.T) { // P13.1
	m := maker{rand.New(rand.NewSource(13))}
	var n tally
	for range 3000 {
		raw := m.table(1 + m.Intn(12))
		x := tree(t, raw...)
		texts := [2]string{m.sheet(), m.sheet()}
		agent, author := m.bend(read(t, texts[0])), m.bend(read(t, texts[1]))
		w := wordsOf(agent, author)
		s := cascade.New(agent, author)
		for i := -1; i <= len(raw); i++ {
			for pseudo := -1; pseudo <= 6; pseudo++ {
				agrees(t, s, w, x, i, pseudo, &n)
			}
		}
		for pseudo := -1; pseudo <= 6; pseudo++ {
			agreesAtOnce(t, s, x, pseudo)
		}
		if t.Failed() {
			t.Fatalf("table: %v, agent: %s, author: %s", raw, texts[0], texts[1])
		}
	}
	if n.of < n.asked/10 || n.of > n.asked*9/10 || n.refused < 1000 || slices.Min(n.origins[:]) < 1000 {
		t.Errorf("too few of a kind: %+v", n)
	}
}

// agrees holds what is told of i and pseudo against the words.
func agrees(t *testing.T, s *cascade.Sheet, w words, x *dom.Tree, i, pseudo int, n *tally) {
	t.Helper()
	won, keys, of := w.told(x, i, pseudo)
	got := s.Won(x, i, pseudo)
	same := len(got) == len(won)
	for k := range got {
		same = same && got[k].Name == won[k].Name && got[k].Wide == won[k].Wide && reflect.DeepEqual(plain(got[k].Style), plain(won[k].Style))
	}
	if !same {
		t.Errorf("Won(%d, %d):\n got %+v\nwant %+v", i, pseudo, got, won)
	}
	if got := s.Keys(x, i, pseudo); !reflect.DeepEqual(got, keys) {
		t.Errorf("Keys(%d, %d) = %v, want %v", i, pseudo, got, keys)
	}
	if got := s.Any(x, i, pseudo); got != of {
		t.Errorf("Any(%d, %d) = %v", i, pseudo, got)
	}
	n.asked++
	if of {
		n.of++
	}
	if of && len(won) == 0 {
		n.refused++
	}
	for _, k := range keys {
		n.origins[k.Origin]++
	}
}

// agreesAtOnce holds what All tells against Won.
func agreesAtOnce(t *testing.T, s *cascade.Sheet, x *dom.Tree, pseudo int) {
	t.Helper()
	all := s.All(x, pseudo)
	if len(all) != x.Len() {
		t.Fatalf("All(%d) is of %d nodes", pseudo, len(all))
	}
	for i, got := range all {
		if want := s.Won(x, i, pseudo); !reflect.DeepEqual(got, want) {
			t.Errorf("All(%d)[%d]:\n got %+v\nwant %+v", pseudo, i, got, want)
		}
	}
}
