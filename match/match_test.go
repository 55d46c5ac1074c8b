package match_test

import (
	"math"
	"reflect"
	"runtime/debug"
	"slices"
	"strconv"
	"strings"
	"testing"

	"fleuron/api"
	"fleuron/dom"
	"fleuron/match"
	"fleuron/nest"
	"fleuron/points"
	"fleuron/selector"
	"fleuron/token"
)

type (
	chain    = selector.Complex
	compound = selector.Compound
	simple   = selector.Simple
)

// element is one with attributes, of which names and values are handed in by turns.
func element(parent int, tag string, l ...string) api.Raw {
	r := api.Raw{Parent: parent, Tag: tag}
	for i := 0; i < len(l); i += 2 {
		r.Attrs = append(r.Attrs, api.Attr{Name: l[i], Value: l[i+1]})
	}
	return r
}

// text is a text.
func text(parent int, s string) api.Raw { return api.Raw{Parent: parent, Text: s} }

// tree is the tree of a table that may be.
func tree(t *testing.T, l ...api.Raw) *dom.Tree {
	t.Helper()
	x, e := dom.New(l)
	if e != api.OK {
		t.Fatalf("New(%v) = %d", l, e)
	}
	return x
}

// read is the selectors of a text.
func read(t *testing.T, s string) []chain {
	t.Helper()
	l, e := selector.Parse(nest.All(token.All(points.Read([]byte(s)))))
	if e != api.OK {
		t.Fatalf("Parse(%s) = %d", s, e)
	}
	return l
}

// one is a complex selector of one compound.
func one(tag string, l ...simple) chain { return chain{Parts: []compound{{Tag: tag, Simple: l}}} }

// of is a simple one with a list.
func of(kind int, l ...chain) simple { return simple{Kind: kind, List: l} }

// nth is every so many, of a list.
func nth(kind, a, b int, l ...chain) simple { return simple{Kind: kind, A: a, B: b, List: l} }

// same compares lists; nil and an empty list are the same.
func same(t *testing.T, what string, got, want []int) {
	t.Helper()
	if !slices.Equal(got, want) {
		t.Errorf("%s = %v, want %v", what, got, want)
	}
}

// strange is numbers that are none of a table of n.
func strange(n int) []int {
	return []int{math.MinInt, math.MinInt32, -2, -1, n, n + 1, api.MaxNodes, math.MaxInt32, math.MaxInt}
}

// means asks whom selectors mean, all at once and one by one.
func means(t *testing.T, x *dom.Tree, what string, l []chain, want ...int) {
	t.Helper()
	same(t, "All of "+what, match.All(x, l), want)
	for i := range x.Len() {
		is := slices.ContainsFunc(l, func(c chain) bool { return match.Is(x, i, c) })
		if is != slices.Contains(want, i) {
			t.Errorf("Is(%d) of %s = %v", i, what, is)
		}
		if len(l) == 1 && len(l[0].Parts) == 1 && len(l[0].Combs) == 0 && match.One(x, i, l[0].Parts[0]) != is {
			t.Errorf("One(%d) of %s = %v", i, what, !is)
		}
	}
	for _, i := range strange(x.Len()) {
		for _, c := range l {
			if match.Is(x, i, c) || len(c.Parts) > 0 && match.One(x, i, c.Parts[0]) {
				t.Errorf("%s means %d", what, i)
			}
		}
	}
}

// meaning asks whom the selectors of a text mean.
func meaning(t *testing.T, x *dom.Tree, s string, want ...int) {
	t.Helper()
	means(t, x, s, read(t, s), want...)
}

func TestTags(t *testing.T) { // P8.1
	x := tree(t, element(-1, "DIV"), text(0, "p"), element(0, "p"), element(2, "\u00c4b"), element(0, "*"), text(2, ""), element(0, "P"))
	meaning(t, x, "div", 0)
	meaning(t, x, "DIV", 0)
	meaning(t, x, "p", 2, 6)
	meaning(t, x, "*", 0, 2, 3, 4, 6)
	meaning(t, x, "\u00c4B", 3)
	meaning(t, x, "\u00e4b")
	meaning(t, x, "pp")
	meaning(t, x, "di")
	means(t, x, "no tag", []chain{one("")}, 0, 2, 3, 4, 6)
	means(t, x, "the tag *", []chain{one("*")}, 0, 2, 3, 4, 6)
	means(t, x, "a great tag", []chain{one("DIV")})
	means(t, x, "a tag of a blank", []chain{one(" ")})
	means(t, x, "the tag **", []chain{one("**")})
}

func TestIDs(t *testing.T) { // P8.1
	x := tree(t, element(-1, "a", "ID", "Q"), element(0, "b", "id", " q"), element(0, "b", "id", "q", "class", "Q"), element(0, "b", "id", ""), element(0, "b"), text(0, "q"))
	meaning(t, x, "#Q", 0)
	meaning(t, x, "#q", 2)
	meaning(t, x, "b#q", 2)
	meaning(t, x, "a#q")
	meaning(t, x, "#q#q", 2)
	meaning(t, x, "#q#Q")
	meaning(t, x, "#\\ q", 1)
	means(t, x, "an empty id", []chain{one("", simple{Kind: selector.ID})}, 3)
}

func TestClasses(t *testing.T) { // P8.1
	x := tree(t, element(-1, "a", "class", "x Y"), element(0, "b", "CLASS", "\ty\n x "), element(0, "b", "class", "xy"), element(0, "b", "class", ""), element(0, "b", "id", "x"), element(0, "b", "class", "x-y"))
	meaning(t, x, ".x", 0, 1)
	meaning(t, x, ".Y", 0)
	meaning(t, x, ".y", 1)
	meaning(t, x, ".x.y", 1)
	meaning(t, x, ".y.x", 1)
	meaning(t, x, ".x.x", 0, 1)
	meaning(t, x, ".xy", 2)
	meaning(t, x, ".x-y", 5)
	meaning(t, x, "b.x", 1)
	means(t, x, "an empty class", []chain{one("", simple{Kind: selector.Class})})
	means(t, x, "a class with a blank", []chain{one("", simple{Kind: selector.Class, Name: "x Y"})})
}

// values is what an attribute may be, and a selector may ask.
func values() []string {
	return []string{"", "a", "A", "b", "ab", "aB", "a-", "a-b", "-", "-a", "a b", " a\tb\nA ", "a\fb", "ba", "aba", " ", "\n", "\u00c4", "\u00e4", "\xff", "\xffa", "a \xff", "\u00a0a", "a\u00a0b", "Z", "z", "@", "`", "[", "{"}
}

// small is a text with A to Z made small, all other bytes as they are.
func small(s string) string {
	b := []byte(s)
	for i, c := range b {
		if 'A' <= c && c <= 'Z' {
			b[i] = c - 'A' + 'a'
		}
	}
	return string(b)
}

// asked tells whether v is so as an attribute's selector asks, by the words of P8.1 alone.
func asked(v, op, value string, fold bool) bool {
	if fold {
		v, value = small(v), small(value)
	}
	switch op {
	case "":
		return true
	case "=":
		return v == value
	case "~=":
		words := strings.Split(strings.NewReplacer("\t", " ", "\n", " ").Replace(v), " ")
		return value != "" && !strings.ContainsAny(value, " \t\n") && slices.Contains(words, value)
	case "|=":
		return v == value || strings.Index(v, value+"-") == 0
	case "^=":
		return value != "" && strings.Index(v, value) == 0
	case "$=":
		return value != "" && strings.LastIndex(v, value) >= 0 && strings.LastIndex(v, value) == len(v)-len(value)
	case "*=":
		return value != "" && strings.Contains(v, value)
	}
	return false
}

func TestAttrs(t *testing.T) { // P8.1
	for _, v := range values() {
		x := tree(t, element(-1, "a", "X", v, "x", "second"), element(0, "b"), element(0, "b", "y", v), text(0, v))
		for _, op := range []string{"", "=", "~=", "|=", "^=", "$=", "*=", "!=", "~", "==", " "} {
			for _, value := range values() {
				for _, fold := range []bool{false, true} {
					s := simple{Kind: selector.Attr, Name: "x", Op: op, Value: value, Fold: fold}
					got := []bool{match.One(x, 0, compound{Simple: []simple{s}}), match.Is(x, 0, one("a", s))}
					if want := asked(v, op, value, fold); got[0] != want || got[1] != want {
						t.Errorf("value %q of [x%s%q] fold %v = %v, want %v", v, op, value, fold, got, want)
					}
					for i := 1; i < 4; i++ {
						if match.Is(x, i, one("", s)) {
							t.Errorf("node %d without it has [x%s%q]", i, op, value)
						}
					}
				}
			}
		}
	}
}

func TestAttrNames(t *testing.T) { // P8.1
	x := tree(t, element(-1, "a", "Lang", "en"), element(0, "b", "lang", ""), element(0, "b", "long", "en"), element(0, "b", "", "en"))
	meaning(t, x, "[lang]", 0, 1)
	meaning(t, x, "[LANG=en]", 0)
	meaning(t, x, "[lang=EN]")
	meaning(t, x, "[lang=EN i]", 0)
	meaning(t, x, "[lang][long]")
	meaning(t, x, "b[lang]", 1)
	means(t, x, "a great name", []chain{one("", simple{Kind: selector.Attr, Name: "LANG"})})
	means(t, x, "an empty name", []chain{one("", simple{Kind: selector.Attr})}, 3)
	means(t, x, "only Fold", []chain{one("", simple{Kind: selector.Attr, Name: "lang", Value: "z", Fold: true})}, 0, 1)
}

// mixed is a tree with texts between:
// 0 ol: (1 text) 2 li, (3 text) 4 li.x: (7 empty text); (5 text) 6 li: 8 b: 9 empty text, 10 empty text; 11 li.x: (12 text) 13 b, (14 text)
func mixed(t *testing.T) *dom.Tree {
	t.Helper()
	return tree(t, element(-1, "ol"), text(0, "."), element(0, "li"), text(0, "."), element(0, "li", "class", "x"), text(0, "."), element(0, "li"),
		text(4, ""), element(6, "b"), text(8, ""), text(8, ""), element(0, "li", "class", "x"), text(11, "."), element(11, "b"), text(11, "."))
}

func TestPlaces(t *testing.T) { // P8.1
	x := mixed(t)
	meaning(t, x, ":first-child", 0, 2, 8, 13)
	meaning(t, x, ":last-child", 0, 8, 11, 13)
	meaning(t, x, ":only-child", 0, 8, 13)
	meaning(t, x, "li:first-child", 2)
	meaning(t, x, "li:last-child", 11)
	meaning(t, x, "li:only-child")
	meaning(t, x, ":first-child:last-child", 0, 8, 13)
	meaning(t, x, ":root", 0)
	meaning(t, x, "ol:root", 0)
	meaning(t, x, "li:root")
	meaning(t, x, ":empty", 2, 4, 8, 13)
	y := tree(t, element(-1, "a"))
	for _, s := range []string{":first-child", ":last-child", ":only-child", ":empty", ":root", ":nth-child(1)", ":nth-last-child(1)"} {
		meaning(t, y, s, 0)
	}
	meaning(t, tree(t, element(-1, "a"), text(0, "")), ":empty", 0)
	meaning(t, tree(t, element(-1, "a"), text(0, ""), text(0, " ")), ":empty")
	meaning(t, tree(t, element(-1, "a"), element(0, "b")), ":empty", 1)
	meaning(t, tree(t, api.Raw{Parent: -1, Tag: "a", Text: "x"}), ":empty", 0)
}

func TestNth(t *testing.T) { // P8.1
	x := mixed(t)
	meaning(t, x, "li:nth-child(2)", 4)
	meaning(t, x, "li:nth-child(even)", 4, 11)
	meaning(t, x, "li:nth-child(odd)", 2, 6)
	meaning(t, x, "li:nth-child(n)", 2, 4, 6, 11)
	meaning(t, x, "li:nth-child(-n+3)", 2, 4, 6)
	meaning(t, x, "li:nth-child(n+3)", 6, 11)
	meaning(t, x, "li:nth-child(0)")
	meaning(t, x, "li:nth-child(-n)")
	meaning(t, x, "li:nth-child(5)")
	meaning(t, x, "li:nth-last-child(1)", 11)
	meaning(t, x, "li:nth-last-child(3n+1)", 2, 11)
	meaning(t, x, "li:nth-last-child(-n+3)", 4, 6, 11)
	meaning(t, x, ":nth-child(1)", 0, 2, 8, 13)
	meaning(t, x, ":nth-last-child(1)", 0, 8, 11, 13)
	meaning(t, x, ":nth-child(1 of .x)", 4)
	meaning(t, x, ":nth-child(2 of .x)", 11)
	meaning(t, x, ":nth-last-child(1 of .x)", 11)
	meaning(t, x, ":nth-last-child(2 of .x)", 4)
	meaning(t, x, ":nth-child(n of .x)", 4, 11)
	meaning(t, x, ":nth-child(-n of .x)")
	meaning(t, x, ":nth-child(odd of li:not(.x), b)", 2, 8, 13)
	meaning(t, x, ":nth-child(1 of ol)", 0)
	meaning(t, x, ":nth-last-child(1 of ol)", 0)
	meaning(t, x, ":nth-child(1 of li + li)", 4)
	meaning(t, x, ":nth-child(1 of :nth-last-child(1 of .x))", 11)
	means(t, x, "a broken list", []chain{one("", nth(selector.Nth, 1, 0, chain{}))})
	// Index is above 0: a number that is none of these is not asked.
	means(t, x, "0 of b", []chain{one("", nth(selector.Nth, 0, 0, one("b")))})
	means(t, x, "every one from below of b", []chain{one("", nth(selector.NthLast, 1, math.MinInt, one("b")))}, 8, 13)
	means(t, x, "great numbers", []chain{one("li", nth(selector.Nth, math.MaxInt, math.MinInt+3))}, 4)
}

func TestLists(t *testing.T) { // P8.1
	x := mixed(t)
	meaning(t, x, ":not(li)", 0, 8, 13)
	meaning(t, x, ":not(li, ol)", 8, 13)
	meaning(t, x, ":not(*)")
	meaning(t, x, ":not(.x):not(b)", 0, 2, 6)
	meaning(t, x, ":is(ol, b)", 0, 8, 13)
	meaning(t, x, ":where(ol, b)", 0, 8, 13)
	meaning(t, x, ":is()")
	meaning(t, x, ":where(5)")
	meaning(t, x, "li:is(.x, :first-child)", 2, 4, 11)
	meaning(t, x, ":is(li b)", 8, 13)
	meaning(t, x, ":is(.x b)", 13)
	meaning(t, x, ":not(.x b)", 0, 2, 4, 6, 8, 11)
	meaning(t, x, ":not(:not(b))", 8, 13)
	meaning(t, x, ":is(:not(:where(.x, b)))", 0, 2, 6)
	means(t, x, "an empty list of Not", []chain{one("", of(selector.Not))}, 0, 2, 4, 6, 8, 11, 13)
	means(t, x, "an empty list of Is", []chain{one("", of(selector.Is))})
	means(t, x, "an empty list of Where", []chain{one("", of(selector.Where))})
	means(t, x, "a broken list of Not", []chain{one("b", of(selector.Not, chain{}))}, 8, 13)
	means(t, x, "a broken one in a list", []chain{one("", of(selector.Is, chain{}, one("b"), chain{Combs: []string{" "}}))}, 8, 13)
	means(t, x, "a pseudo-element in a list", []chain{one("", of(selector.Is, chain{Parts: one("b").Parts, Pseudo: api.After}))}, 8, 13)
	means(t, x, "a pseudo-element in a list of Not", []chain{one("b", of(selector.Not, chain{Parts: one("b").Parts, Pseudo: api.After}))})
}

func TestOddKinds(t *testing.T) { // P8.1
	x := mixed(t)
	for _, kind := range []int{math.MinInt, -1, 0, 14, 99, math.MaxInt} {
		what := "kind " + strconv.Itoa(kind)
		means(t, x, what, []chain{one("", simple{Kind: kind})})
		means(t, x, what+" with a list", []chain{one("", of(kind, one("*")))})
		means(t, x, "not "+what, []chain{one("b", of(selector.Not, one("", simple{Kind: kind})))}, 8, 13)
	}
	// What a kind has no use for tells nothing.
	means(t, x, "Root with all", []chain{one("", simple{Kind: selector.Root, Name: "x", Op: "=", Value: "y", Fold: true, A: 1, B: 2, List: []chain{{}}})}, 0)
}

func TestCombs(t *testing.T) { // P8.2
	// 0 a: 1 b: (3 text), 4 c, 6 b: 7 c; (2 text), 5 b: 8 c, 9 d; 10 d
	x := tree(t, element(-1, "a"), element(0, "b"), text(0, "."), text(1, "."), element(1, "c"), element(0, "b"), element(1, "b"), element(6, "c"), element(5, "c"), element(5, "d"), element(0, "d"))
	for s, want := range map[string][]int{
		"a b":              {1, 5, 6},
		"a > b":            {1, 5},
		"b b":              {6},
		"b > b":            {6},
		"a a":              nil,
		"a > a":            nil,
		"b a":              nil,
		"a c":              {4, 7, 8},
		"a > c":            nil,
		"b > c":            {4, 7, 8},
		"b b > c":          {7},
		"a > b > c":        {4, 8},
		"a b b c":          {7},
		"a b b b c":        nil,
		"b + b":            {5},
		"b ~ b":            {5},
		"b + d":            {10},
		"b ~ d":            {10},
		"b + b + d":        {10},
		"b ~ b ~ d":        {10},
		"b ~ b ~ b":        nil,
		"c + b":            {6},
		"b + c":            nil,
		"b ~ c":            nil,
		"a + b":            nil,
		"a ~ *":            nil,
		"* + *":            {5, 6, 9, 10},
		"* ~ *":            {5, 6, 9, 10},
		"* > *":            {1, 4, 5, 6, 7, 8, 9, 10},
		"* *":              {1, 4, 5, 6, 7, 8, 9, 10},
		"* * *":            {4, 6, 7, 8, 9},
		"* * * *":          {7},
		"b + b c":          {8},
		"b ~ b > c + d":    {9},
		"a c + b > c":      {7},
		"a > c + b > c":    nil,
		":root > b + d":    {10},
		":root > b + b":    {5},
		":is(a b) > d":     {9},
		":is(a > b) + d":   {10},
		"b:not(a > b) > c": {7},
		"c, d":             {4, 7, 8, 9, 10},
		"d, c, d":          {4, 7, 8, 9, 10},
		"x, d, y":          {9, 10},
	} {
		meaning(t, x, s, want...)
	}
}

func TestManyWays(t *testing.T) { // P8.2: who is nearest is not always who it is
	// 0 a.x: 1 a: 2 a.y: 3 b, 4 c, 5 b.z, 6 c, 7 d
	x := tree(t, element(-1, "a", "class", "x"), element(0, "a"), element(1, "a", "class", "y"), element(2, "b"), element(2, "c"), element(2, "b", "class", "z"), element(2, "c"), element(2, "d"))
	meaning(t, x, ".x > a b", 3, 5)
	meaning(t, x, ".x > a d", 7)
	meaning(t, x, ".x > .y d")
	meaning(t, x, ".x a a > d", 7)
	meaning(t, x, ":root > a > a > d", 7)
	meaning(t, x, "b + c ~ d", 7)
	meaning(t, x, "b:first-child + c ~ d", 7)
	meaning(t, x, ".z ~ d", 7)
	meaning(t, x, "b:first-child ~ c", 4, 6)
	meaning(t, x, "c + b ~ d", 7)
	meaning(t, x, "c + b:first-child ~ d")
	meaning(t, x, ".x > a b ~ c", 4, 6)
}

func TestHandMade(t *testing.T) { // P8.2
	x := mixed(t)
	parts := []compound{{Tag: "ol"}, {Tag: "li"}}
	means(t, x, "two Parts", []chain{{Parts: parts, Combs: []string{" "}}}, 2, 4, 6, 11)
	for what, c := range map[string]chain{
		"nothing":                  {},
		"combinators alone":        {Combs: []string{" "}},
		"a pseudo-element alone":   {Pseudo: api.Before},
		"too few combinators":      {Parts: parts},
		"no more combinators":      {Parts: parts, Combs: []string{}},
		"too many combinators":     {Parts: parts, Combs: []string{" ", " "}},
		"one too many for one":     {Parts: parts[1:], Combs: []string{" "}},
		"an odd combinator":        {Parts: parts, Combs: []string{"?"}},
		"an empty combinator":      {Parts: parts, Combs: []string{""}},
		"two blanks":               {Parts: parts, Combs: []string{"  "}},
		"another White":            {Parts: parts, Combs: []string{"\n"}},
		"a combinator with blanks": {Parts: parts, Combs: []string{" > "}},
		"two in one":               {Parts: parts, Combs: []string{">>"}},
		"an odd one ahead":         {Parts: []compound{{}, {Tag: "ol"}, {Tag: "li"}}, Combs: []string{"?", " "}},
		"an odd one behind":        {Parts: []compound{{Tag: "ol"}, {Tag: "li"}, {}}, Combs: []string{" ", "?"}},
	} {
		means(t, x, what, []chain{c})
		means(t, x, "not "+what, []chain{one("b", of(selector.Not, c))}, 8, 13)
		means(t, x, what+" and b", []chain{c, one("b"), c}, 8, 13)
	}
	for _, pseudo := range []int{math.MinInt, -1, 0, 1, 2, 3, 4, 5, 6, math.MaxInt} {
		means(t, x, "pseudo-element "+strconv.Itoa(pseudo), []chain{{Parts: one("b").Parts, Pseudo: pseudo}}, 8, 13)
	}
	meaning(t, x, "b::before", 8, 13)
	meaning(t, x, "ol > li:first-line", 2, 4, 6, 11)
}

func TestIndex(t *testing.T) { // P8.2
	x := mixed(t)
	for _, c := range []struct {
		of          string
		i           int
		first, last int
	}{
		{"", 0, 1, 1}, {"", 1, 0, 0}, {"", 2, 1, 4}, {"", 3, 0, 0}, {"", 4, 2, 3}, {"", 5, 0, 0}, {"", 6, 3, 2}, {"", 7, 0, 0},
		{"", 8, 1, 1}, {"", 9, 0, 0}, {"", 11, 4, 1}, {"", 13, 1, 1}, {"", 14, 0, 0},
		{"ol", 0, 1, 1}, {"*", 0, 1, 1}, {"li", 0, 0, 0}, {"ol, li", 0, 1, 1}, {"li, li", 0, 0, 0},
		{"*", 6, 3, 2}, {"li", 6, 3, 2}, {"li", 1, 0, 0}, {"*", 3, 0, 0},
		{".x", 4, 1, 2}, {".x", 11, 2, 1}, {".x", 2, 0, 0}, {".x", 6, 0, 0},
		{".x, :first-child", 2, 1, 3}, {".x, :first-child", 4, 2, 2}, {".x, :first-child", 11, 3, 1}, {".x, .x, .x", 11, 2, 1},
		{"li + li", 4, 1, 3}, {"li + li", 2, 0, 0}, {"ol > li", 11, 4, 1}, {"li > b", 13, 1, 1}, {"ol b", 8, 1, 1}, {"b b", 8, 0, 0},
		{":not(.x)", 6, 2, 1}, {":not(.x)", 4, 0, 0}, {":nth-child(even of :nth-child(n+2))", 6, 1, 1}, {"li::before", 4, 2, 3},
	} {
		var l []chain
		if c.of != "" {
			l = read(t, c.of)
		}
		if first, last := match.Index(x, c.i, false, l), match.Index(x, c.i, true, l); first != c.first || last != c.last {
			t.Errorf("Index(%d) of %q = %d and %d, want %d and %d", c.i, c.of, first, last, c.first, c.last)
		}
	}
	for _, l := range [][]chain{nil, {}, {one("*")}, {one("")}} {
		for _, i := range strange(x.Len()) {
			for _, last := range []bool{false, true} {
				if got := match.Index(x, i, last, l); got != 0 {
					t.Errorf("Index(%d) = %d", i, got)
				}
			}
		}
	}
	if got := match.Index(x, 4, false, []chain{{}}); got != 0 {
		t.Errorf("Index of a broken list = %d", got)
	}
	if got := match.Index(x, 11, false, []chain{{}, one("", simple{Kind: selector.Class, Name: "x"})}); got != 2 {
		t.Errorf("Index of a list with a broken one = %d", got)
	}
}

func TestAll(t *testing.T) { // P8.2
	x := mixed(t)
	same(t, "All of none", match.All(x, nil), nil)
	same(t, "All of an empty list", match.All(x, []chain{}), nil)
	// Rising, whichever selector means them, and in the table's order, not in that of the document.
	meaning(t, x, "b, li.x, ol", 0, 4, 8, 11, 13)
	meaning(t, x, "b, b, li, b", 2, 4, 6, 8, 11, 13)
}

func TestNoTree(t *testing.T) { // P8.2
	for _, x := range []*dom.Tree{nil, new(dom.Tree)} {
		l := []chain{one("*"), one(""), one("", of(selector.Not)), one("", simple{Kind: selector.Root}), {}}
		l = append(l, chain{Parts: []compound{{}, {}}, Combs: []string{" "}})
		same(t, "All", match.All(x, l), nil)
		for _, i := range append(strange(1), 0) {
			for _, c := range l {
				if match.Is(x, i, c) {
					t.Errorf("Is(%d) of %v", i, c)
				}
				if len(c.Parts) > 0 && match.One(x, i, c.Parts[0]) {
					t.Errorf("One(%d) of %v", i, c)
				}
			}
			for _, last := range []bool{false, true} {
				if match.Index(x, i, last, nil) != 0 || match.Index(x, i, last, l) != 0 {
					t.Errorf("Index(%d) is not 0", i)
				}
			}
		}
	}
}

// row is a tree of n nodes, all but the first beside each other.
func row(t *testing.T, n int) *dom.Tree {
	t.Helper()
	l := []api.Raw{element(-1, "a")}
	for len(l) < n {
		l = append(l, element(0, "b"))
	}
	return tree(t, l...)
}

// stair is a tree of n nodes, each in the one ahead, as deep as may be; the others in the last but one of these.
func stair(t *testing.T, n int) *dom.Tree {
	t.Helper()
	l := []api.Raw{element(-1, "a")}
	for len(l) < n {
		l = append(l, element(min(len(l), api.MaxDepth-1)-1, "b"))
	}
	return tree(t, l...)
}

// joinedBy is that many Parts of b behind the first, by one combinator.
func joinedBy(comb, first string, n int) chain {
	c := one(first)
	for range n {
		c.Parts = append(c.Parts, compound{Tag: "b"})
		c.Combs = append(c.Combs, comb)
	}
	return c
}

func TestFar(t *testing.T) { // P8.2: of many ways, none is gone twice
	wide, deep := row(t, api.MaxNodes), stair(t, api.MaxNodes)
	for _, n := range []int{1, 7, 30} {
		what := strconv.Itoa(n) + " Parts"
		if got, want := len(match.All(wide, []chain{joinedBy("~", "b", n)})), api.MaxNodes-1-n; got != want {
			t.Errorf("All of %s beside = %d, want %d", what, got, want)
		}
		if got, want := len(match.All(deep, []chain{joinedBy(" ", "b", n)})), api.MaxNodes-1-n; got != want {
			t.Errorf("All of %s within = %d, want %d", what, got, want)
		}
		for _, x := range []*dom.Tree{wide, deep} {
			for _, comb := range []string{" ", "~"} {
				c := joinedBy(comb, "c", n)
				same(t, "All of "+what+" behind none", match.All(x, []chain{c}), nil)
				if match.Is(x, api.MaxNodes-1, c) || match.Is(x, api.MaxNodes-1, one("", of(selector.Is, c, c, c))) {
					t.Errorf("Is of %s behind none", what)
				}
			}
		}
	}
	deepest := one("b")
	for i := range 30 {
		deepest = one("b", nth(selector.Nth+i%2, 1, 0, deepest))
	}
	if got := match.Index(wide, api.MaxNodes-1, false, []chain{deepest}); got != api.MaxNodes-1 {
		t.Errorf("Index = %d", got)
	}
	if got := match.Index(wide, 1, true, []chain{deepest}); got != api.MaxNodes-1 {
		t.Errorf("Index from the end = %d", got)
	}
	if got := len(match.All(wide, []chain{deepest})); got != api.MaxNodes-1 {
		t.Errorf("All of places within places = %d", got)
	}
}

func TestHalves(t *testing.T) { // P8.1 P8.2: places among those of a place
	x := row(t, api.MaxNodes)
	for s, want := range map[string][]int{
		":nth-child(100n of :nth-child(even of :nth-child(odd of :nth-child(n of b))))":      {399, 799},
		":nth-last-child(100n+1 of :nth-last-child(even of :nth-last-child(4n of b)))":       {192, 992},
		":nth-child(2 of :nth-last-child(-n+2 of b)), :nth-last-child(2 of :nth-child(-3n))": {999},
	} {
		l := read(t, s)
		same(t, "All of "+s, match.All(x, l), want)
		for _, i := range []int{0, 1, 192, 399, 400, 799, 992, 998, 999} {
			if got := slices.ContainsFunc(l, func(c chain) bool { return match.Is(x, i, c) }); got != slices.Contains(want, i) {
				t.Errorf("Is(%d) of %s = %v", i, s, got)
			}
		}
	}
}

func TestDeeperThanCalls(t *testing.T) { // P8.1 P8.2
	defer debug.SetMaxStack(debug.SetMaxStack(1 << 20))
	const deep = 100000 // even: so many times not is as if never
	x := mixed(t)
	for _, kind := range []int{selector.Not, selector.Is, selector.Where, selector.Nth, selector.NthLast} {
		c := one("b")
		for range deep {
			c = one("", nth(kind, 1, 0, c))
		}
		for _, i := range []int{8, 9, 2} {
			if got := match.Is(x, i, c); got != (i == 8) {
				t.Errorf("Is(%d) of lists of kind %d within lists = %v", i, kind, got)
			}
		}
	}
	c := joinedBy(" ", "a", deep)
	if match.Is(x, 8, c) || match.Is(x, 8, one("", of(selector.Is, c))) {
		t.Errorf("Is of many Parts")
	}
	many := one("b", slices.Repeat([]simple{of(selector.Is, one("a"), one("b"))}, deep)...)
	if !match.Is(x, 8, many) || match.Is(x, 2, many) {
		t.Errorf("Is of many simple ones")
	}
	if got := match.Index(x, 8, true, append(slices.Repeat([]chain{one("a")}, deep), one("b"))); got != 1 {
		t.Errorf("Index of a long list = %d", got)
	}
}

// copied is selectors of their own.
func copied(l []chain) []chain {
	l = slices.Clone(l)
	for i, c := range l {
		l[i].Combs = slices.Clone(c.Combs)
		l[i].Parts = slices.Clone(c.Parts)
		for k, p := range c.Parts {
			simples := slices.Clone(p.Simple)
			for n, s := range simples {
				simples[n].List = copied(s.List)
			}
			l[i].Parts[k].Simple = simples
		}
	}
	return l
}

func TestLeavesWhatIsHandedIn(t *testing.T) { // P8.3
	x := mixed(t)
	text := "ol > li.x:not(:is(a, b c) + d, li ~ li:nth-last-child(1 of .x)) b, :nth-child(1 of ol, li:where(.x)) b"
	l := read(t, text)
	room := append(l, one("spare", of(selector.Not, one("x"))))
	want := copied(room)
	for range 2 {
		same(t, "All", match.All(x, room[:len(l)]), []int{8, 13})
		for i := range x.Len() {
			match.Is(x, i, room[0])
			match.One(x, i, room[0].Parts[1])
			match.Index(x, i, true, room[:len(l)])
		}
		if !reflect.DeepEqual(room, want) {
			t.Fatalf("what was handed in is changed: %v", room)
		}
		for i := range x.Len() {
			raw, _ := mixed(t).Node(i)
			if now, _ := x.Node(i); !reflect.DeepEqual(now, raw) {
				t.Fatalf("the tree is changed: %v", now)
			}
		}
	}
	clear(l[0].Parts)
	clear(l)
	meaning(t, x, text, 8, 13)
}

func TestAnswersAreTheirOwn(t *testing.T) { // P8.3
	x := mixed(t)
	l := read(t, "li, b")
	first := match.All(x, l)
	for i := range first[:cap(first)] {
		first[:cap(first)][i] = 99
	}
	same(t, "All once more", match.All(x, l), []int{2, 4, 6, 8, 11, 13})
}
