package cascade_test

import (
	"math"
	"reflect"
	"runtime/debug"
	"slices"
	"strconv"
	"strings"
	"testing"

	"fleuron/api"
	"fleuron/cascade"
	"fleuron/dom"
	"fleuron/nest"
	"fleuron/points"
	"fleuron/prop"
	"fleuron/rules"
	"fleuron/token"
)

type key = cascade.Key

// keyOf is a key, its numbers one behind the other.
func keyOf(origin, ids, classes, types, at int) key {
	return key{Origin: origin, Weight: api.Weight{ids, classes, types}, At: at}
}

// nodes is a text's.
func nodes(s string) []api.Node { return nest.All(token.All(points.Read([]byte(s)))) }

// read is the rules of a text.
func read(t *testing.T, s string) []api.Rule {
	t.Helper()
	l, e := rules.Sheet([]byte(s))
	if e != api.OK {
		t.Fatalf("Sheet(%s) = %d", s, e)
	}
	return l
}

// sheet is a sheet of two texts.
func sheet(t *testing.T, agent, author string) *cascade.Sheet {
	t.Helper()
	return cascade.New(read(t, agent), read(t, author))
}

// element is one with attributes, of which names and values are handed in by turns.
func element(parent int, tag string, l ...string) api.Raw {
	r := api.Raw{Parent: parent, Tag: tag}
	for i := 0; i < len(l); i += 2 {
		r.Attrs = append(r.Attrs, api.Attr{Name: l[i], Value: l[i+1]})
	}
	return r
}

// text is a text.
func text(parent int, s string) api.Raw { return api.Raw{Parent: parent, Text: s} }

// tree is the tree of a table that may be.
func tree(t *testing.T, l ...api.Raw) *dom.Tree {
	t.Helper()
	x, e := dom.New(l)
	if e != api.OK {
		t.Fatalf("New(%v) = %d", l, e)
	}
	return x
}

// page is the tree that most tests have: a, b in it, of the classes c and d; a text; and b in b, with the id q.
func page(t *testing.T) *dom.Tree {
	t.Helper()
	return tree(t, element(-1, "a"), element(0, "b", "class", "c d"), text(0, "x"), element(1, "b", "id", "q", "class", "c"))
}

// plain is a style in which an empty list is nil.
func plain(s api.Style) api.Style {
	s.Content = append([]api.Item(nil), s.Content...)
	s.Quotes = append([]string(nil), s.Quotes...)
	for _, l := range []*[]api.Pair{&s.Reset, &s.Add, &s.Set} {
		*l = append([]api.Pair(nil), *l...)
	}
	return s
}

// won is one that won.
type won struct {
	value prop.Value
	key   key
}

// says is what a text says of a property.
func says(t *testing.T, name, value string) prop.Value {
	t.Helper()
	v, e := prop.Parse(api.Decl{Name: name, Value: nodes(value)})
	if e != api.OK {
		t.Fatalf("Parse(%s: %s) = %d", name, value, e)
	}
	return v
}

// wins is one whose key's numbers stand one behind the other.
func wins(t *testing.T, name, value string, origin, ids, classes, types, at int) won {
	t.Helper()
	return won{says(t, name, value), keyOf(origin, ids, classes, types, at)}
}

// tells asks Won and Keys; nobody wins without Any.
func tells(t *testing.T, s *cascade.Sheet, x *dom.Tree, i, pseudo int, want ...won) {
	t.Helper()
	l, keys := s.Won(x, i, pseudo), s.Keys(x, i, pseudo)
	if len(l) != len(want) || len(keys) != len(want) {
		t.Errorf("of %d, %d:\n got %+v, %v\nwant %+v", i, pseudo, l, keys, want)
		return
	}
	for n, w := range want {
		got := l[n]
		k, ok := keys[w.value.Name]
		if got.Name != w.value.Name || got.Wide != w.value.Wide || !reflect.DeepEqual(plain(got.Style), plain(w.value.Style)) || !ok || k != w.key {
			t.Errorf("of %d, %d:\n got %+v, %v %v\nwant %+v", i, pseudo, got, k, ok, w)
		}
	}
	if len(want) > 0 && !s.Any(x, i, pseudo) {
		t.Errorf("Any(%d, %d) is false", i, pseudo)
	}
}

// author asks what author's rules alone say of a node of the page.
func author(t *testing.T, in string, i, pseudo int, want ...won) {
	t.Helper()
	tells(t, sheet(t, "", in), page(t), i, pseudo, want...)
	if t.Failed() {
		t.Fatal(in)
	}
}

func TestLess(t *testing.T) { // P13.1
	var all []key // rising
	values := []int{math.MinInt, -1, 0, 1, math.MaxInt}
	for _, origin := range values {
		for _, ids := range values {
			for _, classes := range values {
				for _, types := range values {
					all = append(all, keyOf(origin, ids, classes, types, -1), keyOf(origin, ids, classes, types, 4))
				}
			}
		}
	}
	for i, a := range all {
		for k, b := range all {
			if cascade.Less(a, b) != (i < k) {
				t.Fatalf("Less(%v, %v) = %v", a, b, i >= k)
			}
		}
	}
	ats := []int{math.MinInt, -5, 0, 7, math.MaxInt}
	for i, a := range ats {
		for k, b := range ats {
			if cascade.Less(key{At: a}, key{At: b}) != (i < k) {
				t.Errorf("Less of At %d, %d", a, b)
			}
		}
	}
}

func TestExample(t *testing.T) { // P13.1
	x := tree(t, element(-1, "a", "id", "a"))
	tells(t, sheet(t, "", "#a {color:red} a {color:blue}"), x, 0, api.Self, wins(t, "color", "red", 1, 1, 0, 0, 0))
}

func TestWhichRules(t *testing.T) { // P13.1
	red := func(at int) won { return wins(t, "color", "red", 1, 0, 0, 1, at) }
	author(t, "@media x { color: blue; display: none } b{color:red}", 1, api.Self, red(0))
	author(t, "@media; b{color:red}", 1, api.Self, red(0))
	author(t, "@b{color:blue} b{color:red}", 1, api.Self, red(0))
	// what 6 does not read counts nothing
	for _, bad := range []string{"5", "b,", ",b", "b:nosuch", "b::nosuch", "b >", "b b b b b b b b b", "b::before b", "", "'b'", "b:is(5)x", "b{}5"} {
		author(t, bad+"{color:blue;display:none} b{color:red}", 1, api.Self, red(0))
	}
	author(t, "b{} b{color:red}", 1, api.Self, red(0))
	// a rule without a block, or with an At, as nobody reads it
	l := read(t, "b{color:blue;quotes:none} b{display:none} b{color:red}")
	l[0].Block, l[1].At = false, "b"
	tells(t, cascade.New(nil, l), page(t), 1, api.Self, red(0))
	tells(t, cascade.New(l, nil), page(t), 1, api.Self, wins(t, "color", "red", 0, 0, 0, 1, 0))
	l[1].At = " "
	tells(t, cascade.New(nil, l), page(t), 1, api.Self, red(0))
	l[1].At = ""
	tells(t, cascade.New(nil, l), page(t), 1, api.Self, red(1), wins(t, "display", "none", 1, 0, 0, 1, 0))
}

func TestAt(t *testing.T) { // P13.1
	// all declarations count: of other nodes, of other pseudo-elements, refused ones, ones that lose in their own rule
	author(t, "x{color:red;color:red} b::before{color:red} b{nosuch:1;color:5;display:;color:red;display:a}", 1, api.Self, wins(t, "color", "red", 1, 0, 0, 1, 5))
	author(t, "b{color:red;color:blue;color:green} b{quotes:none}", 1, api.Self, wins(t, "color", "green", 1, 0, 0, 1, 2), wins(t, "quotes", "none", 1, 0, 0, 1, 3))
	// agent's are ahead of author's
	s := sheet(t, "x{color:red} b{display:none;nosuch:x} 5{color:red} @x{color:red}", "b{color:red;quotes:none!important} b{color:blue}")
	tells(t, s, page(t), 1, api.Self, wins(t, "color", "blue", 1, 0, 0, 1, 5), wins(t, "display", "none", 0, 0, 0, 1, 1), wins(t, "quotes", "none", 2, 0, 0, 1, 4))
	s = sheet(t, "b{display:none}", "")
	tells(t, s, page(t), 1, api.Self, wins(t, "display", "none", 0, 0, 0, 1, 0))
	tells(t, sheet(t, "", ""), page(t), 1, api.Self)
	tells(t, cascade.New(nil, nil), page(t), 1, api.Self)
}

func TestOrigins(t *testing.T) { // P13.1
	type said struct{ agent, author string }
	sides := []said{
		{"#q.c.c{color:red}", "x{}"},
		{"", "*{color:red}"},
		{"", "*{color:red!important}"},
		{"*{color:red!important}", ""},
	}
	weights := []api.Weight{{1, 2, 0}, {}, {}, {}}
	for more := range sides {
		for less := range more {
			other := func(s string) string { return strings.ReplaceAll(s, "red", "blue") }
			s := sheet(t, sides[more].agent+other(sides[less].agent), sides[more].author+other(sides[less].author))
			l := s.Won(page(t), 3, api.Self)
			k := s.Keys(page(t), 3, api.Self)["color"]
			if len(l) != 1 || l[0].Style.Color != "red" || k.Origin != more || k.Weight != weights[more] {
				t.Errorf("%d against %d: %+v, %v", more, less, l, k)
			}
		}
	}
	// in one rule
	author(t, "b{color:red!important;color:blue}", 1, api.Self, wins(t, "color", "red", 2, 0, 0, 1, 0))
	author(t, "b{color:red!important;color:green!IMPORTANT;color:blue}", 1, api.Self, wins(t, "color", "green", 2, 0, 0, 1, 1))
	s := sheet(t, "b{color:red;color:green!important;color:blue}", "#q{color:blue!important}")
	tells(t, s, page(t), 3, api.Self, wins(t, "color", "green", 3, 0, 0, 1, 1))
	// what is important, but not taken, wins nothing
	author(t, "b{color:red;color:5!important}", 1, api.Self, wins(t, "color", "red", 1, 0, 0, 1, 0))
}

func TestWeight(t *testing.T) { // P13.1
	red := func(ids, classes, types, at int) won { return wins(t, "color", "red", 1, ids, classes, types, at) }
	// ids, then classes, then types, then the later one
	author(t, "#q{color:red} b.c.c.c b.c.c.c{color:blue}", 3, api.Self, red(1, 0, 0, 0))
	author(t, ".c{color:red} a b b{color:blue}", 3, api.Self, red(0, 1, 0, 0))
	author(t, "a b b{color:red} b b{color:blue}", 3, api.Self, red(0, 0, 3, 0))
	author(t, "b b{color:blue} a b{color:red}", 3, api.Self, red(0, 0, 2, 1))
	author(t, "*{color:blue} :where(#q.c){color:red}", 3, api.Self, red(0, 0, 0, 1))
	// the greatest of a rule's selectors, wherever it stands
	for _, l := range []string{"#q,.c,b", "b,.c,#q", ".c,#q,b", "#q,#q"} {
		author(t, l+"{color:red} .c.c b b{color:blue}", 3, api.Self, red(1, 0, 0, 0))
	}
	// ones that do not mean it weigh nothing
	author(t, "b,#nosuch,#q x,x.c.c{color:blue} *.d,.c{color:red}", 1, api.Self, red(0, 1, 0, 1))
	author(t, "b,#q{color:red}", 1, api.Self, red(0, 0, 1, 0))
	author(t, "b,#q{color:red}", 3, api.Self, red(1, 0, 0, 0))
	// nor do those of other pseudo-elements
	author(t, "b,#q::before,.c::after{color:red}", 3, api.Self, red(0, 0, 1, 0))
	author(t, "b,#q::before,.c::after{color:red}", 3, api.Before, red(1, 0, 1, 0))
	author(t, "b,#q::before,.c::after{color:red}", 3, api.After, red(0, 1, 1, 0))
	author(t, "b,#q::before,.c::after{color:red}", 1, api.Before)
	// lists within
	author(t, ":is(#nosuch,b){color:red}", 1, api.Self, red(1, 0, 0, 0))
	author(t, "b:not(.x,a){color:red} b:nth-child(1){color:red}", 1, api.Self, red(0, 1, 1, 1))
	author(t, ":is(),.c{color:red}", 1, api.Self, red(0, 1, 0, 0))
	author(t, ":is(){color:red}", 1, api.Self)
	// the rest of a rule is weighed by the same selector
	author(t, "#q,b{color:red;display:none} b{color:blue;display:block}", 3, api.Self, red(1, 0, 0, 0), wins(t, "display", "none", 1, 1, 0, 0, 1))
}

func TestTags(t *testing.T) { // P13.1
	author(t, "B{color:red}", 1, api.Self, wins(t, "color", "red", 1, 0, 0, 1, 0))
	x := tree(t, element(-1, "DIV"), element(0, "*"))
	s := sheet(t, "", "DIV,*{color:red}")
	tells(t, s, x, 0, api.Self, wins(t, "color", "red", 1, 0, 0, 1, 0))
	tells(t, s, x, 1, api.Self, wins(t, "color", "red", 1, 0, 0, 0, 0))
	s = sheet(t, "", "\\*{color:red} \\*::before{color:blue}")
	tells(t, s, x, 0, api.Self, wins(t, "color", "red", 1, 0, 0, 0, 0))
	tells(t, s, x, 1, api.Before, wins(t, "color", "blue", 1, 0, 0, 1, 1))
	// with and without a tag, the one behind the other
	for _, in := range []string{"b{color:blue}.c{color:blue}*.c{color:red}", "*.c{color:blue}b{color:blue}.c{color:red}", ".c{color:blue}*.c{color:red}b{color:blue}"} {
		s := sheet(t, "", in)
		k := s.Keys(page(t), 1, api.Self)["color"]
		if l := s.Won(page(t), 1, api.Self); len(l) != 1 || l[0].Style.Color != "red" || k.Weight != (api.Weight{0, 1, 0}) {
			t.Errorf("%s: %+v, %v", in, l, k)
		}
	}
}

func TestOrder(t *testing.T) { // P13.1
	values := map[string]string{"color": "red", "content": "'x' attr(y)", "counter-increment": "a b 2", "counter-reset": "reversed(a) b 3", "counter-set": "a 1", "display": "list-item", "list-style-type": "'-'", "quotes": "'<' '>'"}
	names := prop.Names()
	for turn := range names {
		in := ""
		var want []won
		for n := range names {
			name := names[(n+turn)%len(names)]
			in = name + ":" + values[name] + ";" + in // the other way round
		}
		for n, name := range names {
			at := (len(names) - 1 - n + turn) % len(names)
			want = append(want, wins(t, name, values[name], 1, 0, 0, 1, at))
		}
		author(t, "b{"+in+"}", 1, api.Self, want...)
	}
	// some of them
	author(t, "b{quotes:auto} .c{display:none} b{color:red}", 1, api.Self,
		wins(t, "color", "red", 1, 0, 0, 1, 2), wins(t, "display", "none", 1, 0, 1, 0, 1), wins(t, "quotes", "auto", 1, 0, 0, 1, 0))
}

func TestWide(t *testing.T) { // P13.1
	for _, name := range prop.Names() {
		for _, word := range []string{"inherit", "initial", "UNSET"} {
			author(t, "b{"+name+":"+word+"}", 1, api.Self, wins(t, name, word, 1, 0, 0, 1, 0))
		}
	}
	author(t, "b{color:red;color:inherit}", 1, api.Self, wins(t, "color", "inherit", 1, 0, 0, 1, 1))
	author(t, "b{color:inherit;color:red}", 1, api.Self, wins(t, "color", "red", 1, 0, 0, 1, 1))
}

func TestRefused(t *testing.T) { // P13.1
	refused := "nosuch:1;color:5;color:'red';color:red blue;display:flex;quotes:'x';counter-reset:1;content:x;list-style-type:default"
	s := sheet(t, "", "b{"+refused+"}")
	tells(t, s, page(t), 1, api.Self)
	if !s.Any(page(t), 1, api.Self) {
		t.Error("Any is false of a declaration that is refused")
	}
	author(t, "b{color:red} #q{"+refused+"} b{"+strings.ReplaceAll(refused, ";", "!important;")+"}", 3, api.Self, wins(t, "color", "red", 1, 0, 0, 1, 0))
	author(t, "b{color:red;display:none;color:5;display:x}", 1, api.Self, wins(t, "color", "red", 1, 0, 0, 1, 0), wins(t, "display", "none", 1, 0, 0, 1, 1))
	// a name as 4 does not tell it
	l := read(t, "b{color:red;color:blue}")
	l[0].Decls[1].Name = "COLOR"
	tells(t, cascade.New(nil, l), page(t), 1, api.Self, wins(t, "color", "red", 1, 0, 0, 1, 0))
	l[0].Decls[0].Name = ""
	s = cascade.New(nil, l)
	tells(t, s, page(t), 1, api.Self)
	if !s.Any(page(t), 1, api.Self) {
		t.Error("Any is false of a declaration without a name")
	}
}

func TestPseudo(t *testing.T) { // P13.1
	words := []string{"", "::before", "::after", "::marker", "::first-letter", "::first-line"}
	for pseudo, word := range words {
		s := sheet(t, "", "b"+word+"{color:red}")
		weight := 1 + min(pseudo, 1)
		for i := range 4 {
			for other := -1; other <= len(words); other++ {
				meant := (i == 1 || i == 3) && other == pseudo
				var want []won
				if meant {
					want = []won{wins(t, "color", "red", 1, 0, 0, weight, 0)}
				}
				tells(t, s, page(t), i, other, want...)
				if got := s.Any(page(t), i, other); got != meant {
					t.Errorf("%s: Any(%d, %d) = %v", word, i, other, got)
				}
			}
		}
	}
	author(t, "::before{color:red}", 0, api.Before, wins(t, "color", "red", 1, 0, 0, 1, 0))
	author(t, "::before{color:red}", 0, api.Self)
	author(t, "b:before,b:AFTER{color:red}", 1, api.After, wins(t, "color", "red", 1, 0, 0, 2, 0))
	author(t, "b, b::before{color:red} b::before{color:blue}", 1, api.Self, wins(t, "color", "red", 1, 0, 0, 1, 0))
	author(t, "b, b::before{color:red} b::before{color:blue}", 1, api.Before, wins(t, "color", "blue", 1, 0, 0, 2, 1))
}

func TestAny(t *testing.T) { // P13.1
	x := page(t)
	tests := []struct {
		agent, author string
		i, pseudo     int
		want          bool
	}{
		{"", "b{color:red}", 1, api.Self, true},
		{"", "b{color:red}", 0, api.Self, false},
		{"b{color:red}", "", 1, api.Self, true},
		{"", "b{}", 1, api.Self, false},
		{"", "b{color}", 1, api.Self, false},
		{"", "b{nosuch:1}", 1, api.Self, true},
		{"", "b{--x:1}", 1, api.Self, true},
		{"", "b{color:5!important}", 1, api.Self, true},
		{"", "b::first-line{nosuch:1}", 1, api.FirstLine, true},
		{"", "b::first-line{nosuch:1}", 1, api.FirstLetter, false},
		{"", "b::first-line{nosuch:1}", 1, api.Self, false},
		{"", "b::first-line{}", 1, api.FirstLine, false},
		{"", "a,#q,x{nosuch:1}", 3, api.Self, true},
		{"", "a,#q,x{nosuch:1}", 1, api.Self, false},
		{"", "@b{nosuch:1}", 1, api.Self, false},
		{"", "b,5{nosuch:1}", 1, api.Self, false},
		{"b{}", "b{} b{} .c.d{quotes:none}", 1, api.Self, true},
		{"b{}", "b{} b{} .c.d{quotes:none}", 3, api.Self, false},
		{"", "*{color:red}", 2, api.Self, false},
		{"", "*{color:red}", 4, api.Self, false},
		{"", "*{color:red}", -1, api.Self, false},
	}
	for _, c := range tests {
		if got := sheet(t, c.agent, c.author).Any(x, c.i, c.pseudo); got != c.want {
			t.Errorf("%s | %s: Any(%d, %d) = %v", c.agent, c.author, c.i, c.pseudo, got)
		}
	}
}

// nothing asks a sheet that tells nothing.
func nothing(t *testing.T, s *cascade.Sheet, x *dom.Tree, i, pseudo int) {
	t.Helper()
	tells(t, s, x, i, pseudo)
	if s.Any(x, i, pseudo) {
		t.Errorf("Any(%d, %d)", i, pseudo)
	}
}

func TestNobody(t *testing.T) { // P13.1
	numbers := []int{math.MinInt, math.MinInt32, -2, -1, 4, 5, api.MaxNodes, math.MaxInt32, math.MaxInt}
	s := sheet(t, "*{color:red} *::before{color:red}", "*,*::after,b::marker{color:blue!important}")
	for _, n := range numbers {
		for pseudo := range 6 {
			nothing(t, s, page(t), n, pseudo)
			nothing(t, s, page(t), 2, pseudo) // a text
			nothing(t, s, nil, pseudo, 0)
			nothing(t, s, nil, n, pseudo)
			nothing(t, nil, page(t), 1, pseudo)
			nothing(t, nil, nil, n, pseudo)
			nothing(t, &cascade.Sheet{}, page(t), 1, pseudo)
		}
	}
	for _, pseudo := range []int{math.MinInt, -2, -1, 6, 7, math.MaxInt} {
		for i := range 4 {
			nothing(t, s, page(t), i, pseudo)
		}
	}
}

func TestAllOfNobody(t *testing.T) { // P13.1
	s := sheet(t, "*{color:red} *::before{color:red}", "*,*::after,b::marker{color:blue!important}")
	for pseudo := -1; pseudo <= 6; pseudo++ {
		for _, s := range []*cascade.Sheet{nil, {}, cascade.New(nil, nil), s} {
			if got := s.All(nil, pseudo); len(got) != 0 {
				t.Errorf("All(nil, %d) = %v", pseudo, got)
			}
			agreesAtOnce(t, s, page(t), pseudo)
		}
	}
	for _, pseudo := range []int{math.MinInt, math.MaxInt} {
		agreesAtOnce(t, s, page(t), pseudo)
	}
}

func TestManyTrees(t *testing.T) { // P13.1
	s := sheet(t, "b{color:red} a b{color:blue}", "b:empty{display:none}")
	trees := []*dom.Tree{page(t), tree(t, element(-1, "b")), tree(t, element(-1, "a"), element(0, "b"), element(1, "a")), tree(t, element(-1, "x"))}
	for range 3 {
		tells(t, s, trees[0], 1, api.Self, wins(t, "color", "blue", 0, 0, 0, 2, 1))
		tells(t, s, trees[0], 3, api.Self, wins(t, "color", "blue", 0, 0, 0, 2, 1), wins(t, "display", "none", 1, 0, 1, 1, 2))
		tells(t, s, trees[1], 0, api.Self, wins(t, "color", "red", 0, 0, 0, 1, 0), wins(t, "display", "none", 1, 0, 1, 1, 2))
		tells(t, s, trees[2], 1, api.Self, wins(t, "color", "blue", 0, 0, 0, 2, 1))
		nothing(t, s, trees[2], 2, api.Self)
		nothing(t, s, trees[3], 0, api.Self)
	}
	// sheets have nothing in common
	other := sheet(t, "", "b{color:green}")
	tells(t, other, trees[1], 0, api.Self, wins(t, "color", "green", 1, 0, 0, 1, 0))
	tells(t, s, trees[1], 0, api.Self, wins(t, "color", "red", 0, 0, 0, 1, 0), wins(t, "display", "none", 1, 0, 1, 1, 2))
}

// spoilNodes writes over all of a list, and what is within.
func spoilNodes(l []api.Node) {
	for i := range l[:cap(l)] {
		n := &l[:cap(l)][i]
		spoilNodes(n.Kids)
		*n = api.Node{Token: api.Token{Kind: api.Delim, Text: "!"}}
	}
}

// spoil writes over rules, and what is within.
func spoil(l []api.Rule) {
	for i := range l {
		spoilNodes(l[i].Prelude)
		for k := range l[i].Decls {
			spoilNodes(l[i].Decls[k].Value)
			l[i].Decls[k] = api.Decl{Name: "display", Important: true}
		}
		l[i] = api.Rule{At: "x"}
	}
}

// all is a rule of all properties, with a list in each that may have one, and selectors within selectors.
const all = "b:is(a, b:not(#x.y)):nth-child(2n+1 of b, .c){color:red;content:'x' counters(a, '.');counter-increment:a b 2;counter-reset:a reversed(b);counter-set:c 4;display:block;list-style-type:'-';quotes:'<' '>' '(' ')'}"

func TestNotChangedAndNotKept(t *testing.T) { // P13.2
	agent, author := read(t, "b{color:red!important} x{y:z}"), read(t, all)
	s, same := cascade.New(agent, author), sheet(t, "b{color:red!important} x{y:z}", all)
	x := page(t)
	before, keys := same.Won(x, 1, api.Self), same.Keys(x, 1, api.Self)
	s.Won(x, 1, api.Self)
	if !reflect.DeepEqual(agent, read(t, "b{color:red!important} x{y:z}")) || !reflect.DeepEqual(author, read(t, all)) {
		t.Error("New or Won changes what is handed in")
	}
	if len(before) != 8 {
		t.Fatalf("%d won", len(before))
	}
	spoil(agent)
	spoil(author)
	if got := s.Won(x, 1, api.Self); !reflect.DeepEqual(got, before) {
		t.Errorf("what was handed in is kept:\n got %+v\nwant %+v", got, before)
	}
	if got := s.Keys(x, 1, api.Self); !reflect.DeepEqual(got, keys) {
		t.Errorf("what was handed in is kept: %v, want %v", got, keys)
	}
	if got, want := x.Order(), page(t).Order(); !slices.Equal(got, want) {
		t.Errorf("the tree is changed: %v", got)
	}
}

// spoilStyle writes over a style's lists, with their spare room.
func spoilStyle(s api.Style) {
	for i := range s.Content[:cap(s.Content)] {
		s.Content[:cap(s.Content)][i] = api.Item{Text: "spoilt"}
	}
	for i := range s.Quotes[:cap(s.Quotes)] {
		s.Quotes[:cap(s.Quotes)][i] = "spoilt"
	}
	for _, l := range [][]api.Pair{s.Reset, s.Add, s.Set} {
		for i := range l[:cap(l)] {
			l[:cap(l)][i] = api.Pair{Name: "spoilt"}
		}
	}
}

func TestNewMemory(t *testing.T) { // P13.2
	s, same := sheet(t, "", all), sheet(t, "", all)
	x := page(t)
	before, keys := same.Won(x, 1, api.Self), same.Keys(x, 1, api.Self)
	one, two, other := s.Won(x, 1, api.Self), s.Won(x, 1, api.Self), s.Won(x, 3, api.Self)
	for i := range one {
		spoilStyle(one[i].Style)
	}
	for i := range one[:cap(one)] {
		one[:cap(one)][i] = prop.Value{Name: "spoilt", Wide: 9}
	}
	told := s.Keys(x, 1, api.Self)
	told["color"] = key{At: 99}
	told["spoilt"] = key{}
	delete(told, "quotes")
	for _, got := range [][]prop.Value{two, other, s.Won(x, 1, api.Self)} {
		if !reflect.DeepEqual(got, before) {
			t.Errorf("lists are shared:\n got %+v\nwant %+v", got, before)
		}
	}
	if got := s.Keys(x, 1, api.Self); !reflect.DeepEqual(got, keys) {
		t.Errorf("maps are shared: %v", got)
	}
	everybody := s.All(x, api.Self)
	for _, v := range everybody[3] {
		spoilStyle(v.Style)
	}
	for _, got := range [][]prop.Value{everybody[1], s.All(x, api.Self)[3]} {
		if !reflect.DeepEqual(got, before) {
			t.Errorf("lists of all are shared:\n got %+v\nwant %+v", got, before)
		}
	}
	// lists of one answer
	for i := range two {
		spoilStyle(two[i].Style)
		for k := i + 1; k < len(two); k++ {
			if !reflect.DeepEqual(two[k], before[k]) {
				t.Errorf("%s shares a list with %s", two[i].Name, two[k].Name)
			}
		}
	}
}

// deep is a node within nodes.
func deep(kind int, text string, n int) api.Node {
	x := api.Node{Token: api.Token{Kind: api.Ident, Text: "b"}}
	for range n {
		x = api.Node{Token: api.Token{Kind: kind, Text: text}, Kids: []api.Node{x}}
	}
	return x
}

func TestDeep(t *testing.T) { // P13.1
	defer debug.SetMaxStack(debug.SetMaxStack(1 << 20))
	colon := api.Node{Token: api.Token{Kind: api.Colon}}
	l := []api.Rule{
		{Block: true, Prelude: []api.Node{deep(api.Open, "(", 1e5)}, Decls: []api.Decl{{Name: "color", Value: nodes("blue")}}},
		{Block: true, Prelude: []api.Node{colon, deep(api.Function, "not", 1e5)}, Decls: []api.Decl{{Name: "color", Value: nodes("blue")}}},
		{Block: true, Prelude: nodes("b"), Decls: []api.Decl{{Name: "content", Value: []api.Node{deep(api.Function, "attr", 1e5)}}, {Name: "color", Value: nodes("red")}}},
	}
	tells(t, cascade.New(nil, l), page(t), 1, api.Self, wins(t, "color", "red", 1, 0, 0, 1, 1))
}

func TestMuch(t *testing.T) { // P13.1: as much as there may be
	var in strings.Builder
	for n := range api.MaxRules {
		in.WriteString("b,.c" + strconv.Itoa(n%7) + ",a>b::before{color:c" + strconv.Itoa(n) + ";x:y}")
	}
	l := []api.Raw{element(-1, "a")}
	for n := 1; n < api.MaxNodes; n++ {
		l = append(l, element(0, "b", "class", "c"+strconv.Itoa(n%10)))
	}
	x := tree(t, l...)
	s := sheet(t, "a,b{color:red!important}", in.String())
	tells(t, s, x, 0, api.Self, wins(t, "color", "red", 3, 0, 0, 1, 0))
	for i := 1; i < len(l); i += 7 {
		tells(t, s, x, i, api.Self, wins(t, "color", "red", 3, 0, 0, 1, 0))
		tells(t, s, x, i, api.Before, wins(t, "color", "c499", 1, 0, 0, 3, 999))
		if t.Failed() {
			return
		}
	}
	agreesAtOnce(t, s, x, api.Before)
	// more than a sheet of bytes may have
	many := read(t, "b{color:red} b{quotes:none}")
	for range 5000 {
		many[0].Decls = append(many[0].Decls, many[0].Decls[0])
		many = append(many, many[1])
	}
	tells(t, cascade.New(many, many), x, 1, api.Self, wins(t, "color", "red", 1, 0, 0, 1, 15002), wins(t, "quotes", "none", 1, 0, 0, 1, 20003))
}
