package selector_test

import (
	"math"
	"math/rand"
	"runtime/debug"
	"strings"
	"testing"

	"fleuron/anb"
	"fleuron/api"
	"fleuron/selector"
)

// read is a text's first selector.
func read(t *testing.T, s string) chain {
	t.Helper()
	l, e := selector.Parse(nodes(s))
	if e != api.OK {
		t.Fatalf("Parse(%s) = %d", s, e)
	}
	return l[0]
}

func TestWeigh(t *testing.T) { // P6.2
	for in, want := range map[string]api.Weight{
		"a":                               {0, 0, 1},
		"*":                               {},
		"*.a":                             {0, 1, 0},
		".a":                              {0, 1, 0},
		"#a":                              {1, 0, 0},
		"[a]":                             {0, 1, 0},
		"[a=b i]":                         {0, 1, 0},
		":first-child":                    {0, 1, 0},
		":last-child":                     {0, 1, 0},
		":only-child":                     {0, 1, 0},
		":empty":                          {0, 1, 0},
		":root":                           {0, 1, 0},
		"::before":                        {0, 0, 1},
		"::after":                         {0, 0, 1},
		"::marker":                        {0, 0, 1},
		"::first-letter":                  {0, 0, 1},
		"a:first-line":                    {0, 0, 2},
		"a b > c + d ~ e":                 {0, 0, 5},
		"a#b.c #d[e]:root::after":         {2, 3, 2},
		"#a#a#a.b.b d d":                  {3, 2, 2},
		":nth-child(2)":                   {0, 1, 0},
		":nth-last-child(2n+1)":           {0, 1, 0},
		":nth-child(2 of a)":              {0, 1, 1},
		":nth-last-child(2 of a, #b, .c)": {1, 1, 0},
		":nth-child(2 of .a.b, c d):root": {0, 4, 0},
		":not(a)":                         {0, 0, 1},
		":not(a, .b, c d)":                {0, 1, 0},
		":is(a, #b, .c.d.e)":              {1, 0, 0},
		":is(#b, a, .c.d.e)":              {1, 0, 0},
		":is(.c.d.e, a, #b)":              {1, 0, 0},
		":is(.a b, c d e f, .a)":          {0, 1, 1},
		":is(#a, #a.b, #a c, #a.b c, #a)": {1, 1, 1},
		":is(a b, c)":                     {0, 0, 2},
		":is()":                           {},
		":is(5)":                          {},
		":is(*)":                          {},
		":where(#a.b c)":                  {},
		"a:where(#a)":                     {0, 0, 1},
		":where(:not(#a))":                {},
		":not(:where(#a))":                {},
		":not(:where(#a), b)":             {0, 0, 1},
		":is(:is(a), :not(.b, c))":        {0, 1, 0},
		":is(:nth-child(1 of #a) .b, #c)": {1, 2, 0},
		"a:is(b.c, d):not(#e, f):is(g)":   {1, 1, 3},
	} {
		if got := selector.Weigh(read(t, in)); got != want {
			t.Errorf("Weigh(%s) = %v, want %v", in, got, want)
		}
	}
}

func TestWeighHandMade(t *testing.T) { // P6.2
	heavy, light := one("", id("x")), one("x")
	for _, c := range []struct {
		name string
		in   chain
		want api.Weight
	}{
		{"nothing", chain{}, api.Weight{}},
		{"a pseudo-element alone", chain{Pseudo: api.FirstLine}, api.Weight{0, 0, 1}},
		{"no tag", one(""), api.Weight{}},
		{"a pseudo-element in a list", one("", of(12, with(light, api.After))), api.Weight{0, 0, 2}},
		{"a list of Not that is empty", one("", of(11)), api.Weight{}},
		{"a list of NthLast", one("", nth(10, 1, 1, light, heavy)), api.Weight{1, 1, 0}},
		{"a list of Where", one("", of(13, heavy)), api.Weight{}},
		{"no kind", one("a", of(0, heavy)), api.Weight{0, 0, 1}},
		{"an odd kind", one("a", of(14, heavy), of(-1, heavy)), api.Weight{0, 0, 1}},
		{"without combinators", chain{Parts: []compound{{Tag: "a"}, {Tag: "b"}}}, api.Weight{0, 0, 2}},
	} {
		if got := selector.Weigh(c.in); got != c.want {
			t.Errorf("Weigh of %s = %v, want %v", c.name, got, c.want)
		}
	}
}

func TestText(t *testing.T) { // P6.2
	for in, want := range map[string]string{
		"A":                            "a",
		"*":                            "*",
		"#A":                           "#A",
		".A":                           ".A",
		"a#B.C":                        "a#B.C",
		"*.c":                          "*.c",
		"[ X ]":                        "[x]",
		"[x=y]":                        `[x="y"]`,
		"[x='']":                       `[x=""]`,
		"[x~=y][x|=y]":                 `[x~="y"][x|="y"]`,
		"[x^=y][x$=y][x*=y]":           `[x^="y"][x$="y"][x*="y"]`,
		"[ x = 'Y z' I]":               `[x="Y z" i]`,
		"[x='\"']":                     `[x="""]`,
		".\\.\\20 x":                   ".. x",
		"\\31 x":                       "1x",
		":FIRST-CHILD:Last-Child":      ":first-child:last-child",
		":only-child:empty:root":       ":only-child:empty:root",
		":nth-child( ODD )":            ":nth-child(2n+1)",
		":nth-child(even)":             ":nth-child(2n)",
		":nth-last-child(-n - 3)":      ":nth-last-child(-1n-3)",
		":nth-child(0n+5)":             ":nth-child(5)",
		":nth-child(n of  A ,.b  #c)":  ":nth-child(1n of a, .b #c)",
		":nth-last-child(4 of a)":      ":nth-last-child(4 of a)",
		":NOT( A )":                    ":not(a)",
		":not(a,b>c)":                  ":not(a, b > c)",
		":is(a,5,b)c":                  "",
		":is(a,5,b)":                   ":is(a, b)",
		":is()":                        ":is()",
		":where( 5 )":                  ":where()",
		":where(:is(a,:not(b,c)),d)":   ":where(:is(a, :not(b, c)), d)",
		"a\t\tb":                       "a b",
		"a>b":                          "a > b",
		"a+b ~c":                       "a + b ~ c",
		"a b>c  d":                     "a b > c d",
		"::before":                     "*::before",
		"a:after":                      "a::after",
		"a  ::MARKER":                  "a *::marker",
		"a>:first-letter":              "a > *::first-letter",
		".x::first-line":               ".x::first-line",
		"a:is(b):nth-child(1)::before": "a:is(b):nth-child(1)::before",
	} {
		if want == "" {
			refuses(t, in, nodes(in))
		} else if got := selector.Text(read(t, in)); got != want {
			t.Errorf("Text of %s = %q, want %q", in, got, want)
		}
	}
}

func TestTextHandMade(t *testing.T) { // P6.2
	for _, c := range []struct {
		name string
		in   chain
		want string
	}{
		{"nothing", chain{}, ""},
		{"no tag", one(""), ""},
		{"a pseudo-element in a list", one("", of(12, with(one("x"), api.After))), ":is(x::after)"},
		{"a list of Not that is empty", one("", of(11)), ":not()"},
		{"great numbers", one("", nth(9, math.MinInt, math.MaxInt)), ":nth-child(-9223372036854775808n+9223372036854775807)"},
		{"no kind", one("a", of(0, one("b"))), "a"},
		{"an odd kind", one("a", of(14, one("b")), class("c"), of(-1, one("b"))), "a.c"},
		{"a list of First", one("", of(4, one("b"))), ":first-child"},
		{"an empty one in a list", one("", of(12, chain{}, one("a"), chain{})), ":is(, a, )"},
		{"a name as it is", one("A", class(" \xff\""), asks("X", "=", "\\")), "A. \xff\"" + `[X="\"]`},
	} {
		if got := selector.Text(c.in); got != c.want {
			t.Errorf("Text of %s = %q, want %q", c.name, got, c.want)
		}
	}
}

func TestEnds(t *testing.T) { // P6.2
	for _, pseudo := range []int{math.MinInt, -1, 0, 1, 5, 6, 7, 100, math.MaxInt} {
		for _, parts := range [][]compound{nil, {{Tag: "a"}}, {{Tag: "a"}, {Tag: "b"}}} {
			for _, combs := range [][]string{nil, {" "}, {">", "+"}, {"", "x", "~"}} {
				c := chain{Parts: parts, Combs: combs, Pseudo: pseudo}
				selector.Text(c)
				selector.Weigh(c)
				selector.Text(one("a", of(12, c)))
				selector.Weigh(one("a", of(12, c)))
			}
		}
	}
	for kind := -3; kind < 20; kind++ {
		s := simple{Kind: kind, List: all(one("a"))}
		selector.Text(one("a", s))
		selector.Weigh(one("a", s))
	}
}

func TestDeeperThanCalls(t *testing.T) { // P6.2
	defer debug.SetMaxStack(debug.SetMaxStack(1 << 20))
	const deep = 200000
	c := one("a", id("b"))
	for range deep {
		c = one("", class("c"), of(11, one("d"), c))
	}
	if got, want := selector.Weigh(c), (api.Weight{1, deep, 1}); got != want {
		t.Errorf("Weigh = %v, want %v", got, want)
	}
	want := strings.Repeat(".c:not(d, ", deep) + "a#b" + strings.Repeat(")", deep)
	if got := selector.Text(c); got != want {
		t.Errorf("Text has %d bytes, want %d", len(got), len(want))
	}
}

// maker makes selectors by chance, and their texts, as they may be written and as Text has them.
type maker struct {
	*rand.Rand
}

// of is one of some texts.
func (m maker) of(l ...string) string { return l[m.Intn(len(l))] }

// white is White or not.
func (m maker) white() string { return m.of("", "", " ", "\n", "/* */", " /**/\t") }

// some is White.
func (m maker) some() string { return m.of(" ", "\t", " \n ", "/**/ ", " /**/ /**/") }

// name is one with letters of both kinds.
func (m maker) name() string { return m.of("a", "Bc", "dE-f", "-g", "h_1", "of", "NOT") }

// cased is a word with some letters made great.
func (m maker) cased(s string) string {
	b := []byte(s)
	for i, c := range b {
		if 'a' <= c && c <= 'z' && m.Intn(4) == 0 {
			b[i] = c - 'a' + 'A'
		}
	}
	return string(b)
}

// list is so many, and how they are written.
func (m maker) list(most, depth int) ([]chain, string) {
	var l []chain
	in := ""
	for i := range 1 + m.Intn(most) {
		c, text := m.chain(depth)
		l = append(l, c)
		if i > 0 {
			in += ","
		}
		in += m.white() + text + m.white()
	}
	return l, in
}

// chain is a complex one.
func (m maker) chain(depth int) (chain, string) {
	var c chain
	in := ""
	for i := range 1 + m.Intn(4) {
		if i > 0 {
			comb := m.of(" ", ">", "+", "~")
			c.Combs = append(c.Combs, comb)
			if comb == " " {
				in += m.some()
			} else {
				in += m.white() + comb + m.white()
			}
		}
		p, text := m.compound(depth)
		c.Parts = append(c.Parts, p)
		in += text
	}
	if depth == 0 && m.Intn(3) == 0 {
		c.Pseudo = 1 + m.Intn(5)
		colons := "::"
		if c.Pseudo != api.Marker {
			colons = m.of(":", "::")
		}
		in += colons + m.cased([]string{"", "before", "after", "marker", "first-letter", "first-line"}[c.Pseudo])
	}
	return c, in
}

// compound is one of a node.
func (m maker) compound(depth int) (compound, string) {
	var p compound
	in := ""
	if m.Intn(2) == 0 {
		in = m.of("*", m.name())
		p.Tag = strings.ToLower(in)
	}
	for range m.Intn(3) {
		s, text := m.simple(depth)
		p.Simple = append(p.Simple, s)
		in += m.of("", "", "/**/") + text
	}
	if p.Tag == "" && len(p.Simple) == 0 {
		return compound{Tag: "*"}, "*"
	}
	return p, in
}

// simple is a simple one.
func (m maker) simple(depth int) (simple, string) {
	kind := 1 + m.Intn(13)
	if depth == 3 && kind > selector.Root {
		kind = selector.Class
	}
	name := m.name()
	words := []string{"", "", "", "", "first-child", "last-child", "only-child", "empty", "root", "nth-child", "nth-last-child", "not", "is", "where"}
	switch {
	case kind == selector.ID:
		return id(name), "#" + name
	case kind == selector.Class:
		return class(name), "." + name
	case kind == selector.Attr:
		return m.attribute()
	case kind <= selector.Root:
		return word(kind), ":" + m.cased(words[kind])
	case kind <= selector.NthLast:
		return m.nth(kind, words[kind], depth)
	}
	l, in := m.list(3, depth+1)
	if kind != selector.Not && m.Intn(3) == 0 {
		in = m.of("5,", "::after,", ",", "a b >,") + in + m.of("", ",", ",#1 , . ")
	}
	return of(kind, l...), ":" + m.cased(words[kind]) + "(" + in + ")"
}

// attribute is an attribute's.
func (m maker) attribute() (simple, string) {
	name := m.name()
	s := has(strings.ToLower(name))
	in := "[" + m.white() + name + m.white()
	if m.Intn(3) > 0 {
		s.Op = m.of("=", "~=", "|=", "^=", "$=", "*=")
		s.Value = m.name()
		in += s.Op + m.white() + m.of(s.Value, "'"+s.Value+"'", `"`+s.Value+`"`) + m.white()
		if s.Fold = m.Intn(2) == 0; s.Fold {
			in += "/**/" + m.of("i", "I")
		}
	}
	return s, in + "]"
}

// nth is every so many.
func (m maker) nth(kind int, name string, depth int) (simple, string) {
	s := nth(kind, m.Intn(9)-4, m.Intn(9)-4)
	in := ":" + m.cased(name) + "(" + m.white() + anb.Text(s.A, s.B)
	if m.Intn(2) == 0 {
		in += m.white()
	} else {
		l, text := m.list(2, depth+1)
		s.List = l
		in += m.some() + m.cased("of") + m.some() + text
	}
	return s, in + ")"
}

// weighed is what Weigh should tell.
func weighed(c chain) api.Weight {
	var w api.Weight
	add := func(x api.Weight) { w = api.Weight{w[0] + x[0], w[1] + x[1], w[2] + x[2]} }
	for _, p := range c.Parts {
		if p.Tag != "" && p.Tag != "*" {
			add(api.Weight{0, 0, 1})
		}
		for _, s := range p.Simple {
			switch {
			case s.Kind == selector.ID:
				add(api.Weight{1, 0, 0})
			case s.Kind <= selector.NthLast:
				add(api.Weight{0, 1, 0})
			}
			if s.Kind != selector.Where {
				add(greatest(s.List))
			}
		}
	}
	if c.Pseudo > 0 {
		add(api.Weight{0, 0, 1})
	}
	return w
}

// greatest is that of a list; no number of it is as great as 1000.
func greatest(l []chain) api.Weight {
	most := 0
	for _, c := range l {
		w := weighed(c)
		most = max(most, w[0]*1000000+w[1]*1000+w[2])
	}
	return api.Weight{most / 1000000, most / 1000 % 1000, most % 1000}
}

func TestSomeOfAllKinds(t *testing.T) { // P6.1 P6.2
	m := maker{rand.New(rand.NewSource(6))}
	for range 3000 {
		l, in := m.list(3, 0)
		reads(t, in, nodes(in), l)
		var texts []string
		for _, c := range l {
			texts = append(texts, selector.Text(c))
			if got, want := selector.Weigh(c), weighed(c); got != want {
				t.Errorf("Weigh(%s) = %v, want %v", selector.Text(c), got, want)
			}
		}
		text := strings.Join(texts, ", ")
		reads(t, text, nodes(text), l)
		if t.Failed() {
			return
		}
	}
}

func TestLeavesSelectors(t *testing.T) { // P6.3
	l, _ := selector.Parse(nodes(rich + "o"))
	want, _ := selector.Parse(nodes(rich + "o"))
	for i := range l {
		text, weight := selector.Text(l[i]), selector.Weigh(l[i])
		if !same(l, want) {
			t.Fatalf("Text or Weigh changed its selector: %v", l)
		}
		if selector.Text(want[i]) != text || selector.Weigh(want[i]) != weight {
			t.Errorf("Text or Weigh is not the same twice: %s, %v", text, weight)
		}
		spoil(l[i : i+1 : i+1])
		if selector.Text(want[i]) != text || selector.Weigh(want[i]) != weight {
			t.Errorf("Text or Weigh keeps its selector: %s, %v", text, weight)
		}
		l[i] = want[i]
	}
}
