package nest_test

import (
	"math/rand"
	"reflect"
	"runtime/debug"
	"slices"
	"strings"
	"testing"

	"fleuron/api"
	"fleuron/nest"
	"fleuron/points"
	"fleuron/token"
)

// tokens is a text's.
func tokens(s string) []api.Token { return token.All(points.Read([]byte(s))) }

// nodes is a text's.
func nodes(s string) []api.Node { return nest.All(tokens(s)) }

// leaf is a node that is a token alone.
func leaf(kind int, text string) api.Node {
	return api.Node{Token: api.Token{Kind: kind, Text: text}}
}

// block is a node with what is in it.
func block(kind int, text string, kids ...api.Node) api.Node {
	return api.Node{Token: api.Token{Kind: kind, Text: text}, Kids: kids}
}

func ident(s string) api.Node                      { return leaf(api.Ident, s) }
func closed(s string) api.Node                     { return leaf(api.Close, s) }
func open(s string, kids ...api.Node) api.Node     { return block(api.Open, s, kids...) }
func function(s string, kids ...api.Node) api.Node { return block(api.Function, s, kids...) }
func mark(kind int, text string) api.Token         { return api.Token{Kind: kind, Text: text} }

// list is nodes.
func list(l ...api.Node) []api.Node { return l }

// flat is tokens.
func flat(l ...api.Token) []api.Token { return l }

// around is k blocks, one within the other.
func around(k int, begin, in, end string) string {
	return strings.Repeat(begin, k) + in + strings.Repeat(end, k)
}

// within is what is in the first node, k times.
func within(l []api.Node, k int) []api.Node {
	for range k {
		l = l[0].Kids
	}
	return l
}

// same compares all fields; nil and an empty list are the same.
func same(a, b []api.Node) bool { return reflect.DeepEqual(plain(a), plain(b)) }

// plain is the same nodes without empty lists.
func plain(l []api.Node) []api.Node {
	var all []api.Node
	for _, n := range l {
		all = append(all, api.Node{Token: n.Token, Kids: plain(n.Kids)})
	}
	return all
}

var white = leaf(api.White, "")
var comma = leaf(api.Comma, "")

func TestAll(t *testing.T) { // P3.1
	for _, c := range []struct {
		in   string
		want []api.Node
	}{
		{"", nil},
		{"a", list(ident("a"))},
		{" a b ", list(white, ident("a"), white, ident("b"), white)},
		{"f(a, b) c", list(function("f", ident("a"), comma, white, ident("b")), white, ident("c"))},
		{"f()", list(function("f"))},
		{"()[]{}", list(open("("), open("["), open("{"))},
		{"( a )", list(open("(", white, ident("a"), white))},
		{"[a]b", list(open("[", ident("a")), ident("b"))},
		{"{a;}b", list(open("{", ident("a"), leaf(api.Semicolon, "")), ident("b"))},
		{"(a[b{c}d]e)f", list(open("(", ident("a"), open("[", ident("b"), open("{", ident("c")), ident("d")), ident("e")), ident("f"))},
		{"f(g(a)b)c", list(function("f", function("g", ident("a")), ident("b")), ident("c"))},
		{"f((a)b)c", list(function("f", open("(", ident("a")), ident("b")), ident("c"))},
		{"((a)(b))", list(open("(", open("(", ident("a")), open("(", ident("b"))))},
		{")a]b}", list(closed(")"), ident("a"), closed("]"), ident("b"), closed("}"))},
		{"(]})a", list(open("(", closed("]"), closed("}")), ident("a"))},
		{"[)}]a", list(open("[", closed(")"), closed("}")), ident("a"))},
		{"{)]}a", list(open("{", closed(")"), closed("]")), ident("a"))},
		{"f(]})a", list(function("f", closed("]"), closed("}")), ident("a"))},
		{"{(})}a", list(open("{", open("(", closed("}"))), ident("a"))},
		{"(", list(open("("))},
		{"f(", list(function("f"))},
		{"(a", list(open("(", ident("a")))},
		{"a(b[c{d", list(function("a", ident("b"), open("[", ident("c"), open("{", ident("d")))))},
		{"(a[b)c", list(open("(", ident("a"), open("[", ident("b"), closed(")"), ident("c"))))},
		{"url(a)b", list(leaf(api.URL, "a"), ident("b"))},
		{"url(')')b", list(function("url", leaf(api.String, ")")), ident("b"))},
		{"(/*)*/a)", list(open("(", ident("a")))},
	} {
		if got := nodes(c.in); !same(got, c.want) {
			t.Errorf("All(%q):\n got %v\nwant %v", c.in, got, c.want)
		}
	}
}

func TestAllKeepsFields(t *testing.T) { // P3.1
	all := []api.Token{{Kind: api.Function, Text: "f", Int: 3}, {Kind: api.Dimension, Text: "px", Int: -7, Whole: true, Sign: true}, {Kind: api.Close, Text: ")"}, {Kind: api.Hash, Text: "h", ID: true}}
	want := list(api.Node{Token: all[0], Kids: list(api.Node{Token: all[1]})}, api.Node{Token: all[3]})
	if got := nest.All(all); !same(got, want) {
		t.Errorf("All told %v, want %v", got, want)
	}
}

func TestTokensThatOpenNothing(t *testing.T) { // P3.1
	for _, text := range []string{"", "x", ")", "((", "<", "( "} {
		odd, end := mark(api.Open, text), mark(api.Close, ")")
		in := flat(odd, mark(api.Ident, "a"), end)
		want := list(api.Node{Token: odd}, ident("a"), closed(")"))
		if got := nest.All(in); !same(got, want) {
			t.Errorf("All of an Open %q: %v", text, got)
		}
		within := append(flat(mark(api.Open, "(")), in...)
		want = list(open("(", want[:2]...))
		if got := nest.All(within); !same(got, want) {
			t.Errorf("All of an Open %q within: %v", text, got)
		}
	}
	for _, text := range []string{"", "x", "(", "))"} {
		in := flat(mark(api.Open, "("), mark(api.Close, text), mark(api.Close, ")"), mark(api.Ident, "a"))
		if got, want := nest.All(in), list(open("(", closed(text)), ident("a")); !same(got, want) {
			t.Errorf("All of a Close %q: %v", text, got)
		}
	}
	for _, kind := range []int{api.End, api.Delim, api.Ident, -1, 21} {
		in := flat(mark(kind, "("), mark(api.Open, "("), mark(kind, ")"))
		if got, want := nest.All(in), list(leaf(kind, "("), open("(", leaf(kind, ")"))); !same(got, want) {
			t.Errorf("All of brackets of kind %d: %v", kind, got)
		}
	}
	in := flat(mark(api.Function, "["), mark(api.Close, "]"), mark(api.Close, ")"), mark(api.Close, ")"))
	if got, want := nest.All(in), list(function("[", closed("]")), closed(")")); !same(got, want) {
		t.Errorf("All of a Function of an odd name: %v", got)
	}
}

func TestOne(t *testing.T) { // P3.1
	in := tokens("a f(b[c])d(")
	for _, c := range []struct {
		at   int
		want api.Node
		next int
	}{
		{0, ident("a"), 1},
		{1, white, 2},
		{2, function("f", ident("b"), open("[", ident("c"))), 8},
		{3, ident("b"), 4},
		{4, open("[", ident("c")), 7},
		{6, closed("]"), 7},
		{7, closed(")"), 8},
		{8, function("d"), 9},
		{9, api.Node{}, 9},
		{10, api.Node{}, 10},
		{-1, api.Node{}, -1},
		{1 << 62, api.Node{}, 1 << 62},
		{-1 << 62, api.Node{}, -1 << 62},
	} {
		n, next := nest.One(in, c.at)
		if !same(list(n), list(c.want)) || next != c.next {
			t.Errorf("One(%d) = %v, %d, want %v, %d", c.at, n, next, c.want, c.next)
		}
	}
	if n, next := nest.One(nil, 0); !same(list(n), list(api.Node{})) || next != 0 {
		t.Errorf("One(nil, 0) = %v, %d", n, next)
	}
	if n, next := nest.One(tokens("a(b(c"), 0); next != 3 || n.Kids[0].Kids[0].Token.Text != "c" {
		t.Errorf("One to the end = %v, %d", n, next)
	}
}

func TestBlocksOpenAtTheEnd(t *testing.T) { // P3.1
	c := open("{", ident("c"))
	for _, k := range []struct {
		in   string
		at   int
		want api.Node
	}{
		{"(a[b", 0, open("(", ident("a"), open("[", ident("b")))},
		{"(a[b{c", 0, open("(", ident("a"), open("[", ident("b"), c))},
		{"(a[b{c", 2, open("[", ident("b"), c)},
		{"(a[b{c", 4, c},
		{"(a[b{c", 5, ident("c")},
		{"([{", 0, open("(", open("[", open("{")))},
		{"f(g(h(", 0, function("f", function("g", function("h")))},
		{"(a[b{c} d", 0, open("(", ident("a"), open("[", ident("b"), c, white, ident("d")))},
		{"(a[b{c}d]e", 0, open("(", ident("a"), open("[", ident("b"), c, ident("d")), ident("e"))},
		{"(a[b{c)", 0, open("(", ident("a"), open("[", ident("b"), open("{", ident("c"), closed(")"))))},
	} {
		in := tokens(k.in)
		n, next := nest.One(in, k.at)
		if !same(list(n), list(k.want)) || next != len(in) {
			t.Errorf("One(%q, %d) = %v, %d, want %v, %d", k.in, k.at, n, next, k.want, len(in))
		}
		if got, want := nodes(","+k.in[k.at:]), list(comma, k.want); !same(got, want) {
			t.Errorf("All(%q) = %v, want %v", ","+k.in[k.at:], got, want)
		}
	}
	for k := range api.MaxDeep + 9 {
		in := strings.Repeat("a[(f(", k)
		if got, want := nodes(in), nodes(in+strings.Repeat("))]", k)); !same(got, want) {
			t.Errorf("All(%q) = %v, want %v", in, got, want)
		}
	}
}

func TestBlocksTooDeep(t *testing.T) { // P3.1
	for _, c := range []struct{ deep, kids int }{{30, 2}, {31, 2}, {32, 0}, {33, 0}, {34, 0}, {100, 0}, {30000, 0}} {
		for _, in := range []string{around(c.deep, "(", "a b[{}]", ")"), around(c.deep, "f(", "a b[{}]", ")")} {
			all := nodes(in + "c")
			if len(all) != 2 || !same(all[1:], list(ident("c"))) {
				t.Fatalf("%d deep: %d nodes", c.deep, len(all))
			}
			deepest := within(all, min(c.deep, api.MaxDeep)-1)
			if len(deepest) != 1 {
				t.Fatalf("%d deep: %d nodes at the deepest", c.deep, len(deepest))
			}
			if kids := deepest[0].Kids; c.kids == 0 && len(kids) != 0 || c.kids > 0 && len(kids) != 4 {
				t.Errorf("%d deep: kids %v", c.deep, kids)
			}
		}
	}
	at31 := within(nodes(around(31, "[", "a{b}", "]")), 31)
	if want := list(ident("a"), open("{")); !same(at31, want) {
		t.Errorf("at 32: %v, want %v", at31, want)
	}
	at32 := within(nodes(around(31, "[", "{(]) ] }", "]")+"x"), 31)
	if want := list(open("{")); !same(at32, want) {
		t.Errorf("signs that fit what is left out: %v, want %v", at32, want)
	}
	open := nodes(around(40, "{", "a", ""))
	if got := within(open, 31); len(open) != 1 || len(got) != 1 || len(got[0].Kids) != 0 {
		t.Errorf("open to the end: %v", got)
	}
	n, next := nest.One(tokens(","+around(40, "(", "a", ")")+"b"), 1)
	if next != 82 || nest.Deep(list(n)) != 32 {
		t.Errorf("One of 40 deep: next %d, %d deep", next, nest.Deep(list(n)))
	}
	n, next = nest.One(tokens(around(40, "(", "a", ")")), 39)
	if next != 42 || !same(n.Kids, list(ident("a"))) {
		t.Errorf("One from within: %v, %d", n, next)
	}
}

func TestFlat(t *testing.T) { // P3.1
	end := mark(api.Close, ")")
	for _, c := range []struct {
		in   []api.Node
		want []api.Token
	}{
		{nil, nil},
		{list(ident("a"), white), flat(mark(api.Ident, "a"), mark(api.White, ""))},
		{nodes("f(a,(b)[c]{d})e"), tokens("f(a,(b)[c]{d})e")},
		{nodes("f([{"), tokens("f([{}])")},
		{nodes("(]"), tokens("(])")},
		{nodes(")"), tokens(")")},
		{list(open("(", open("["))), tokens("([])")},
		{list(open("x", ident("a")), ident("b")), flat(mark(api.Open, "x"), mark(api.Ident, "b"))},
		{list(open("", ident("a"))), flat(mark(api.Open, ""))},
		{list(open(")", ident("a"))), flat(mark(api.Open, ")"))},
		{list(open("((", ident("a"))), flat(mark(api.Open, "(("))},
		{list(block(api.Ident, "a", ident("b")), block(api.Close, ")", open("("))), flat(mark(api.Ident, "a"), end)},
		{list(block(api.Delim, "(", ident("b")), block(api.End, "", ident("b"))), flat(mark(api.Delim, "("), mark(api.End, ""))},
		{list(function("", ident("a"))), flat(mark(api.Function, ""), mark(api.Ident, "a"), end)},
		{list(function("[")), flat(mark(api.Function, "["), end)},
		{list(open("(", block(api.Ident, "a", ident("b")), ident("c"))), flat(mark(api.Open, "("), mark(api.Ident, "a"), mark(api.Ident, "c"), end)},
	} {
		if got := nest.Flat(c.in); !slices.Equal(got, c.want) {
			t.Errorf("Flat(%v):\n got %v\nwant %v", c.in, got, c.want)
		}
	}
	whole := api.Token{Kind: api.Function, Text: "f", Int: 5, Whole: true, Sign: true, ID: true}
	if got := nest.Flat(list(api.Node{Token: whole})); !slices.Equal(got, flat(whole, end)) {
		t.Errorf("Flat leaves fields out: %v", got)
	}
}

func TestTrim(t *testing.T) { // P3.1
	for _, c := range []struct{ in, want string }{
		{"", ""},
		{" ", ""},
		{" /**/ /**/ ", ""},
		{"a", "a"},
		{"  a", "a"},
		{"a  ", "a"},
		{" /**/ a  b /**/ ", "a  b"},
		{" ( a ) ", "( a )"},
		{" f( ) ", "f( )"},
		{" , ", ","},
		{" 'x' ", "'x'"},
	} {
		if got := nest.Trim(nodes(c.in)); !same(got, nodes(c.want)) {
			t.Errorf("Trim(%q) = %v", c.in, got)
		}
	}
	odd := block(api.Ident, "a", block(api.White, "", ident("b")), white)
	if got := nest.Trim(list(block(api.White, "w", ident("a")), odd, white)); !same(got, list(odd)) {
		t.Errorf("Trim of nodes with Kids of any kind: %v", got)
	}
}

func TestSplit(t *testing.T) { // P3.1
	for _, c := range []struct {
		in   string
		want []string
	}{
		{"", []string{""}},
		{"a", []string{"a"}},
		{",", []string{"", ""}},
		{",,", []string{"", "", ""}},
		{"a,b", []string{"a", "b"}},
		{"a, b ,", []string{"a", " b ", ""}},
		{",a", []string{"", "a"}},
		{"f(a,b),(c,d)e", []string{"f(a,b)", "(c,d)e"}},
		{"a;b", []string{"a;b"}},
	} {
		got := nest.Split(nodes(c.in))
		if len(got) != len(c.want) {
			t.Errorf("Split(%q) = %v", c.in, got)
			continue
		}
		for i, part := range got {
			if !same(part, nodes(c.want[i])) {
				t.Errorf("Split(%q): part %d is %v", c.in, i, part)
			}
		}
	}
	if got := nest.Split(nil); len(got) != 1 || len(got[0]) != 0 {
		t.Errorf("Split(nil) = %v", got)
	}
	odd := list(block(api.Comma, "x", ident("a")), leaf(api.Delim, ","))
	if got := nest.Split(odd); len(got) != 2 || len(got[0]) != 0 || !same(got[1], odd[1:]) {
		t.Errorf("Split(%v) = %v", odd, got)
	}
}

func TestSame(t *testing.T) { // P3.1
	for _, s := range []string{"", "a", "f(a,(b)[c]{d})e", " 1px #a 'b' url(c)"} {
		if !nest.Same(nodes(s), nodes(s)) {
			t.Errorf("Same(%q) of itself is false", s)
		}
	}
	for _, c := range []struct{ a, b string }{
		{"a", ""}, {"a", "b"}, {"a", "a "}, {"ab", "a"}, {"a b", "a c"}, {"a", "'a'"}, {"(a)", "[a]"},
		{"f(a)", "f(b)"}, {"f(a)", "f()"}, {"f(a)", "f(a)b"}, {"f(a b)", "f(a)"}, {"f((a)(b))", "f((a)(c))"}, {"f((a)(b))", "f((c)(b))"}, {"f((a)(b))", "f((a b))"},
		{"1", "2"}, {"1", "+1"}, {"0", "0.0"}, {"#a", "#1"}, {"1px", "1em"},
	} {
		if nest.Same(nodes(c.a), nodes(c.b)) || nest.Same(nodes(c.b), nodes(c.a)) {
			t.Errorf("Same(%q, %q) is true", c.a, c.b)
		}
	}
	base := api.Token{Kind: api.Hash, Text: "a", Int: 1}
	for i, turn := range []func(t *api.Token){
		func(t *api.Token) { t.Kind = api.Ident },
		func(t *api.Token) { t.Text = "A" },
		func(t *api.Token) { t.Int = -1 },
		func(t *api.Token) { t.Whole = true },
		func(t *api.Token) { t.Sign = true },
		func(t *api.Token) { t.ID = true },
	} {
		other := base
		turn(&other)
		a, b := api.Node{Token: base}, api.Node{Token: other}
		if nest.Same(list(a), list(b)) || nest.Same(list(open("(", a)), list(open("(", b))) {
			t.Errorf("Same does not see field %d", i)
		}
	}
	if nest.Same(list(block(api.Ident, "a", ident("b"))), list(ident("a"))) {
		t.Error("Same does not see Kids of an Ident")
	}
	if !nest.Same(nil, []api.Node{}) || !nest.Same(list(api.Node{Kids: []api.Node{}}), list(api.Node{})) {
		t.Error("an empty list is not the same as nil")
	}
}

func TestDeep(t *testing.T) { // P3.1
	for in, want := range map[string]int{
		"": 0, " ": 1, "a": 1, "a b": 1, "f()": 1, "()[]": 1, "(": 1, "f(a)": 2, "( )": 2, "a(b)(c[d])": 3, "(c[d])(b)a": 3, "((()))": 3, "((a)((b)))c": 4,
		around(31, "(", "a", ")"): 32, around(32, "(", "", ")"): 32, around(32, "(", "a", ")"): 32, around(400, "(", "a", ")"): 32,
	} {
		if got := nest.Deep(nodes(in)); got != want {
			t.Errorf("Deep(%.20q) = %d, want %d", in, got, want)
		}
	}
	if got := nest.Deep([]api.Node{}); got != 0 {
		t.Errorf("Deep of an empty list = %d", got)
	}
	if got := nest.Deep(list(block(api.Ident, "a", block(api.Close, ")", ident("b"))), api.Node{Kids: []api.Node{}})); got != 3 {
		t.Errorf("Deep of Kids of any kind = %d", got)
	}
}

// pieces is what sheets of every kind are laid together from.
const pieces = "a,f(,(,[,{,),],}, ,1px,;,'x',:,/**/"

func TestThereAndBack(t *testing.T) { // P3.2
	some := rand.New(rand.NewSource(3))
	parts := append(strings.Split(pieces, ","), ",")
	for range 20000 {
		in := ""
		for range some.Intn(40) {
			in += parts[some.Intn(len(parts))]
		}
		l := nodes(in)
		if nest.Deep(l) > api.MaxDeep {
			t.Fatalf("All(%q) is %d deep", in, nest.Deep(l))
		}
		if back := nest.All(nest.Flat(l)); !same(back, l) || !nest.Same(back, l) {
			t.Errorf("All(Flat(All(%q))):\n got %v\nwant %v", in, back, l)
		}
	}
	for k := range 70 {
		l := nodes(around(k, "{", "a(b)]", "}"))
		if back := nest.All(nest.Flat(l)); !same(back, l) {
			t.Errorf("%d deep: %v", k, back)
		}
	}
}

func TestNodesDeeperThanCalls(t *testing.T) { // P3.1
	const deep = 200000
	defer debug.SetMaxStack(debug.SetMaxStack(1 << 20))
	all := list(ident("a"))
	for range deep {
		all = list(open("(", all...))
	}
	if got := nest.Deep(all); got != deep+1 {
		t.Errorf("Deep = %d", got)
	}
	if got := nest.Flat(all); len(got) != 2*deep+1 {
		t.Errorf("Flat: %d tokens", len(got))
	}
	trimmed, split := nest.Trim(all), nest.Split(all)
	if !nest.Same(trimmed, all) || len(split) != 1 || !nest.Same(all, split[0]) {
		t.Error("Trim or Split of deep nodes are not the same")
	}
	if got := nest.All(nest.Flat(all)); len(got) != 1 || nest.Deep(got) != api.MaxDeep {
		t.Errorf("All of deep tokens: %d nodes, %d deep", len(got), nest.Deep(got))
	}
}

func TestLeavesTokens(t *testing.T) { // P3.2
	room := tokens("a f(b[c]{d) e spare room")
	given := room[:len(room)-4]
	before := slices.Clone(room)
	all := nest.All(given)
	n, _ := nest.One(given, 2)
	if !slices.Equal(room, before) {
		t.Errorf("All or One changed its tokens: %v", room)
	}
	kept, one := plain(all), plain(list(n))
	for i := range room {
		room[i] = mark(api.Delim, "!")
	}
	if !same(all, kept) || !same(list(n), one) {
		t.Errorf("All or One keep their tokens: %v, %v", all, n)
	}
	spoil(all)
	if again := nest.All(before[:len(given)]); !same(again, kept) {
		t.Errorf("two answers of All share memory: %v", again)
	}
}

// spoil changes all that a list of nodes leads to, its spare room too.
func spoil(l []api.Node) {
	l = l[:cap(l)]
	for i := range l {
		spoil(l[i].Kids)
		l[i] = ident("spoilt")
	}
}

func TestLeavesNodes(t *testing.T) { // P3.2
	room := nodes(" f(a, b[c]) , {(d)} e spare")
	given := room[:len(room)-1]
	given[1].Kids = given[1].Kids[:3]
	before, spare := plain(room), plain(given[1].Kids[:4])
	other := nest.Copy(given)
	calls := []func() [][]api.Node{
		func() [][]api.Node { return [][]api.Node{nest.Trim(given)} },
		func() [][]api.Node { return nest.Split(given) },
		func() [][]api.Node { return [][]api.Node{nest.Copy(given)} },
		func() [][]api.Node { nest.Flat(given); return nil },
		func() [][]api.Node { nest.Same(given, other); return nil },
		func() [][]api.Node { nest.Deep(given); return nil },
	}
	for i, call := range calls {
		for _, part := range call() {
			spoil(part)
		}
		if !same(room, before) || !same(given[1].Kids[:4], spare) || !same(other, before[:len(given)]) {
			t.Fatalf("call %d changed its nodes: %v", i, room)
		}
	}
	told := nest.Flat(given)
	kept := slices.Clone(told)
	trimmed, split, copied := nest.Trim(given), nest.Split(given), nest.Copy(given)
	spoil(room)
	if !slices.Equal(told, kept) || !same(trimmed, before[1:len(given)-1]) || !same(split[1][1:2], before[5:6]) || !same(copied, before[:len(given)]) {
		t.Errorf("what is told hangs on what was handed in: %v, %v, %v, %v", told, trimmed, split, copied)
	}
}

func TestListsOfTheirOwn(t *testing.T) { // P3.2
	kids := nodes("(a),b")
	both := list(open("{", kids...), function("f"))
	both[0].Kids, both[1].Kids = kids, kids
	for i, got := range [][]api.Node{nest.Trim(both), nest.Split(both)[0], nest.Copy(both)} {
		spoil(got[0].Kids)
		if !same(got[1:], list(function("f", nodes("(a),b")...))) {
			t.Errorf("answer %d: two lists share memory: %v", i, got[1])
		}
	}
	parts := nest.Split(nodes("a,b,c"))
	spoil(parts[0])
	if !same(parts[1], list(ident("b"))) || !same(parts[2], list(ident("c"))) {
		t.Errorf("two parts share memory: %v", parts)
	}
}
