package dom_test

import (
	"math"
	"math/rand"
	"reflect"
	"slices"
	"strconv"
	"strings"
	"testing"

	"fleuron/api"
	"fleuron/dom"
)

// element is one without attributes.
func element(parent int, tag string) api.Raw { return api.Raw{Parent: parent, Tag: tag} }

// text is a text.
func text(parent int, s string) api.Raw { return api.Raw{Parent: parent, Text: s} }

// with is an element with attributes, of which names and values are handed in by turns.
func with(parent int, tag string, l ...string) api.Raw {
	r := element(parent, tag)
	for i := 0; i < len(l); i += 2 {
		r.Attrs = append(r.Attrs, api.Attr{Name: l[i], Value: l[i+1]})
	}
	return r
}

// table is one of elements of these Parents.
func table(parents ...int) []api.Raw {
	var l []api.Raw
	for i, p := range parents {
		l = append(l, element(p, "e"+strconv.Itoa(i)))
	}
	return l
}

// chain is a table of n nodes, each within the one ahead of it.
func chain(n int) []api.Raw {
	var l []api.Raw
	for i := range n {
		l = append(l, element(i-1, "a"))
	}
	return l
}

// flat is a table of n nodes, all but the first within the first.
func flat(n int) []api.Raw {
	return append(table(-1), slices.Repeat([]api.Raw{text(0, "x")}, n-1)...)
}

// tree is the tree of a table that may be.
func tree(t *testing.T, l []api.Raw) *dom.Tree {
	t.Helper()
	x, e := dom.New(l)
	if x == nil || e != api.OK {
		t.Fatalf("New(%v) = %v, %d", l, x, e)
	}
	return x
}

// is compares what was told; nil and an empty list are the same.
func is[T any](t *testing.T, what string, got, want T) {
	t.Helper()
	g, w := reflect.ValueOf(got), reflect.ValueOf(want)
	if g.Kind() == reflect.Slice && g.Len() == 0 && w.Len() == 0 {
		return
	}
	if !reflect.DeepEqual(got, want) {
		t.Errorf("%s = %v, want %v", what, got, want)
	}
}

// node asks for one that is there.
func node(t *testing.T, x *dom.Tree, i int, want api.Raw) {
	t.Helper()
	got, ok := x.Node(i)
	is(t, "Attrs of Node("+strconv.Itoa(i)+")", got.Attrs, want.Attrs)
	got.Attrs, want.Attrs = nil, nil
	if !reflect.DeepEqual(got, want) || !ok {
		t.Errorf("Node(%d) = %v, %v, want %v", i, got, ok, want)
	}
}

// strange is numbers that are none of a table of n.
func strange(n int) []int {
	return []int{math.MinInt, math.MinInt32, -2, -1, n, n + 1, api.MaxNodes, math.MaxInt32, math.MaxInt}
}

func TestNewTakes(t *testing.T) { // P7.1
	for name, l := range map[string][]api.Raw{
		"one":                         table(-1),
		"one of great letters":        {element(-1, "A")},
		"a Tag of any bytes":          {element(-1, "\xff")},
		"a Tag of a blank":            {element(-1, " ")},
		"all in a row":                table(-1, 0, 1, 2),
		"all beside":                  table(-1, 0, 0, 0),
		"Parents that turn back":      table(-1, 0, 1, 0, 1, 2),
		"a text":                      {element(-1, "a"), text(0, "x")},
		"an empty text":               {element(-1, "a"), text(0, "")},
		"a text between":              {element(-1, "a"), text(0, "x"), element(0, "b"), text(2, "y")},
		"the first with Text":         {{Parent: -1, Tag: "a", Text: "x"}},
		"the most nodes":              flat(api.MaxNodes),
		"the most Depth":              chain(api.MaxDepth),
		"the most Depth, a text":      append(chain(api.MaxDepth-1), text(api.MaxDepth-2, "x")),
		"the most Depth, more beside": append(chain(api.MaxDepth), element(api.MaxDepth-2, "b"), element(0, "c")),
	} {
		x, e := dom.New(l)
		if x == nil || e != api.OK {
			t.Errorf("%s: New = %v, %d", name, x, e)
			continue
		}
		is(t, name+": Len", x.Len(), len(l))
	}
}

func TestNewRefuses(t *testing.T) { // P7.1
	for name, l := range map[string][]api.Raw{
		"none":                          nil,
		"an empty list":                 {},
		"the first of no Parent":        {{Tag: "a"}},
		"the first below -1":            table(-2),
		"the first far below":           table(math.MinInt),
		"the first within a later one":  table(1, 0),
		"the first a text":              {text(-1, "x")},
		"the first of nothing":          {{Parent: -1}},
		"the first an empty text only":  {text(-1, ""), element(0, "a")},
		"two firsts":                    table(-1, -1),
		"a later one without a Parent":  table(-1, 0, -1),
		"a Parent below -1":             table(-1, -2),
		"a Parent far below":            table(-1, math.MinInt),
		"within itself":                 table(-1, 1),
		"the last within itself":        table(-1, 0, 2),
		"within the next one":           table(-1, 2, 0),
		"within what is not there":      table(-1, 2),
		"a Parent far above":            table(-1, 0, math.MaxInt),
		"an element within a text":      {element(-1, "a"), text(0, "x"), element(1, "b")},
		"a text within a text":          {element(-1, "a"), text(0, "x"), text(1, "y")},
		"a text without a Parent":       {element(-1, "a"), text(-1, "x")},
		"within an empty text":          {element(-1, "a"), text(0, ""), text(1, "")},
		"one node too many":             flat(api.MaxNodes + 1),
		"many too many":                 flat(1 << 17),
		"one too deep":                  chain(api.MaxDepth + 1),
		"a text too deep":               append(chain(api.MaxDepth), text(api.MaxDepth-1, "x")),
		"one too deep, and more behind": append(chain(api.MaxDepth+1), element(0, "b")),
		"the most nodes, all in a row":  chain(api.MaxNodes),
		"the last is wrong":             append(flat(api.MaxNodes-1), element(1, "b")),
	} {
		if x, e := dom.New(l); x != nil || e != api.ErrTable {
			t.Errorf("%s: New = %v, %d, want nil, %d", name, x, e, api.ErrTable)
		}
	}
}

// mayBe tells whether l may be a table, by the words of P7.1 alone.
func mayBe(l []api.Raw) bool {
	for i, r := range l {
		first := i == 0 && r.Parent == -1 && r.Tag != ""
		later := i > 0 && r.Parent >= 0 && r.Parent < i && l[r.Parent].Tag != ""
		if !first && !later {
			return false
		}
	}
	return len(l) > 0
}

// everyTable goes through all tables of up to n nodes with Parents from -2 to n, elements and texts.
func everyTable(n int, see func(l []api.Raw)) {
	var fill func(l []api.Raw)
	fill = func(l []api.Raw) {
		see(l)
		if len(l) == n {
			return
		}
		for p := -2; p <= n; p++ {
			for _, tag := range []string{"", "a"} {
				fill(append(l[:len(l):len(l)], element(p, tag)))
			}
		}
	}
	fill(nil)
}

func TestNewOfEveryTable(t *testing.T) { // P7.1
	may := 0
	everyTable(4, func(l []api.Raw) {
		x, e := dom.New(l)
		if mayBe(l) {
			may++
			if x == nil || e != api.OK || x.Len() != len(l) {
				t.Fatalf("New(%v) = %v, %d", l, x, e)
			}
		} else if x != nil || e != api.ErrTable {
			t.Fatalf("New(%v) = %v, %d, want nil, %d", l, x, e, api.ErrTable)
		}
	})
	if may < 20 {
		t.Errorf("only %d tables may be", may)
	}
}

func TestNames(t *testing.T) { // P7.1
	x := tree(t, []api.Raw{
		with(-1, "DiV", "Id", "Q", "CLASS", "A b"),
		with(0, "\u00c4\u212aX", "\u00c4\u212aX", "\u00c4", "\xffA", "\xffA"),
		with(0, "b", "a", "1", "A", "2", "b", "3", "a", "4", "B", "5", "c", "6"),
		with(0, "c", "A", "1", "a", "2"),
		with(0, "d", "", "1", "", "2", " ", "3"),
		with(0, "e", "a", "", "a", "2"),
		with(0, "", "a", "b", "class", "c"),
		text(0, "Xy Z"),
		text(0, ""),
		element(0, "f"),
		with(0, "g", "\u00e4", "1", "\u00c4", "2"),
	})
	for i, want := range []api.Raw{
		with(-1, "div", "id", "Q", "class", "A b"),
		with(0, "\u00c4\u212ax", "\u00c4\u212ax", "\u00c4", "\xffa", "\xffA"),
		with(0, "b", "a", "1", "b", "3", "c", "6"),
		with(0, "c", "a", "1"),
		with(0, "d", "", "1", " ", "3"),
		with(0, "e", "a", ""),
		text(0, ""),
		text(0, "Xy Z"),
		text(0, ""),
		element(0, "f"),
		with(0, "g", "\u00e4", "1", "\u00c4", "2"),
	} {
		node(t, x, i, want)
	}
	is(t, "Len", x.Len(), 11)
}

func TestNodeKeepsText(t *testing.T) { // P7.1: Tags, Names and Attrs are told of alone
	x := tree(t, []api.Raw{{Parent: -1, Tag: "A", Text: "Xy"}})
	node(t, x, 0, api.Raw{Parent: -1, Tag: "a", Text: "Xy"})
}

func TestManyAttrs(t *testing.T) { // P7.1
	var names, want []string
	for i := range 1 << 16 {
		n := strconv.Itoa(i)
		names = append(names, "A"+n, n, "a"+n, "second")
		want = append(want, "a"+n, n)
	}
	got, _ := tree(t, []api.Raw{with(-1, "a", names...)}).Node(0)
	if !slices.Equal(got.Attrs, with(-1, "a", want...).Attrs) {
		t.Errorf("Node of %d attributes has other %d", len(names)/2, len(got.Attrs))
	}
}

func TestNodeOfNone(t *testing.T) { // P7.2
	x := tree(t, table(-1, 0, 0))
	for _, i := range strange(3) {
		if got, ok := x.Node(i); ok || !reflect.DeepEqual(got, api.Raw{}) {
			t.Errorf("Node(%d) = %v, %v", i, got, ok)
		}
	}
}

func TestKids(t *testing.T) { // P7.2
	x := tree(t, []api.Raw{element(-1, "a"), element(0, "b"), text(0, "x"), element(1, "c"), element(0, "d"), text(1, ""), text(4, "y"), element(1, "e")})
	for i, want := range [][2][]int{
		{{1, 2, 4}, {1, 4}},
		{{3, 5, 7}, {3, 7}},
		{},
		{},
		{{6}, {}},
		{},
		{},
		{},
	} {
		is(t, "Kids of "+strconv.Itoa(i), x.Kids(i), want[0])
		is(t, "Elements of "+strconv.Itoa(i), x.Elements(i), want[1])
	}
	for _, i := range strange(8) {
		is(t, "Kids of none", x.Kids(i), nil)
		is(t, "Elements of none", x.Elements(i), nil)
	}
}

func TestDepth(t *testing.T) { // P7.2
	x := tree(t, append(chain(api.MaxDepth), element(0, "b"), text(api.MaxDepth, "x"), text(0, "y")))
	for i := range api.MaxDepth {
		is(t, "Depth", x.Depth(i), i+1)
	}
	is(t, "Depth of the element behind", x.Depth(api.MaxDepth), 2)
	is(t, "Depth of its text", x.Depth(api.MaxDepth+1), 3)
	is(t, "Depth of the last text", x.Depth(api.MaxDepth+2), 2)
	for _, i := range strange(api.MaxDepth + 3) {
		is(t, "Depth of none", x.Depth(i), 0)
	}
}

func TestBefore(t *testing.T) { // P7.2
	x := tree(t, []api.Raw{element(-1, "a"), text(0, "x"), element(0, "b"), element(2, "c"), text(0, "y"), text(0, "z"), element(0, "d"), element(2, "e"), element(0, "f"), text(0, ""), text(8, "v"), text(8, "w"), element(8, "g")})
	for i, want := range [][]int{nil, nil, nil, nil, {2}, {2}, {2}, {3}, {6, 2}, {8, 6, 2}, nil, nil, nil} {
		is(t, "Before of "+strconv.Itoa(i), x.Before(i), want)
	}
	for _, i := range strange(13) {
		is(t, "Before of none", x.Before(i), nil)
	}
}

func TestAttr(t *testing.T) { // P7.2
	x := tree(t, []api.Raw{
		with(-1, "a", "ID", "Q", "b", "", "B", "x", "\u00c4", "y"),
		with(0, "", "id", "r"),
		with(0, "b", "id", " s ", "", "nameless"),
	})
	for _, c := range []struct {
		i    int
		name string
		want string
		ok   bool
	}{
		{0, "id", "Q", true},
		{0, "ID", "", false},
		{0, "Id", "", false},
		{0, "id ", "", false},
		{0, "i", "", false},
		{0, "", "", false},
		{0, "b", "", true},
		{0, "B", "", false},
		{0, "\u00c4", "y", true},
		{0, "\u00e4", "", false},
		{0, "class", "", false},
		{1, "id", "", false},
		{2, "id", " s ", true},
		{2, "", "nameless", true},
		{2, "b", "", false},
	} {
		if got, ok := x.Attr(c.i, c.name); got != c.want || ok != c.ok {
			t.Errorf("Attr(%d, %q) = %q, %v, want %q, %v", c.i, c.name, got, ok, c.want, c.ok)
		}
	}
	for _, i := range strange(3) {
		if got, ok := x.Attr(i, "id"); got != "" || ok {
			t.Errorf("Attr(%d) = %q, %v", i, got, ok)
		}
	}
}

func TestHas(t *testing.T) { // P7.2
	for _, c := range []struct{ class, has, not string }{
		{"", "", "x"},
		{"x", "x", "X|xx|y"},
		{"x y", "x|y", "x y|x |xy| "},
		{"xy x", "xy|x", "y"},
		{"x x", "x", "x x"},
		{" \t\nx\n\ty  Z ", "x|y|Z", "z|\t|\n| |\ty"},
		{"\t\n ", "", "\t|\n| "},
		{"a\fb", "a\fb", "a|b"},
		{"a\rb", "a\rb", "a|b"},
		{"a\r\nb", "a\r|b", "a"},
		{"a\u00a0b\u2003c\vd", "a\u00a0b\u2003c\vd", "a|b|c|d"},
		{"a\u0085b", "a\u0085b", "a|b"},
		{"\xffa \xff \u00c4", "\xffa|\xff|\u00c4", "a|\ufffd|\ufffda|\u00e4|\xc3"},
		{"a\x00b", "a\x00b", "a|b"},
		{"a,b.c", "a,b.c", "a|b|c"},
	} {
		x := tree(t, []api.Raw{with(-1, "a", "b", "other", "CLASS", c.class, "class", "second"), with(0, "", "class", c.class), element(0, "b")})
		for _, w := range strings.Split(c.has, "|") {
			if w != "" && !x.Has(0, w) {
				t.Errorf("class %q has no %q", c.class, w)
			}
		}
		for _, w := range append(strings.Split(c.not, "|"), "", "second", "other") {
			if x.Has(0, w) {
				t.Errorf("class %q has %q", c.class, w)
			}
		}
		for _, w := range strings.Split(c.has+"|"+c.not, "|") {
			for _, i := range append(strange(3), 1, 2) {
				if x.Has(i, w) {
					t.Errorf("Has(%d, %q)", i, w)
				}
			}
		}
	}
}

func TestOrder(t *testing.T) { // P7.2
	for _, c := range []struct{ parents, want []int }{
		{[]int{-1}, []int{0}},
		{[]int{-1, 0, 0, 1}, []int{0, 1, 3, 2}},
		{[]int{-1, 0, 0, 0}, []int{0, 1, 2, 3}},
		{[]int{-1, 0, 1, 2}, []int{0, 1, 2, 3}},
		{[]int{-1, 0, 0, 1, 2, 1, 3}, []int{0, 1, 3, 6, 5, 2, 4}},
		{[]int{-1, 0, 0, 2, 1, 0, 2, 1, 0}, []int{0, 1, 4, 7, 2, 3, 6, 5, 8}},
	} {
		is(t, "Order", tree(t, table(c.parents...)).Order(), c.want)
	}
	l := []api.Raw{element(-1, "a"), element(0, "b"), text(0, "x"), text(1, ""), element(1, "c"), text(0, "y"), text(4, "z")}
	is(t, "Order with texts", tree(t, l).Order(), []int{0, 1, 3, 4, 6, 2, 5})
}

func TestUnder(t *testing.T) { // P7.2
	x := tree(t, []api.Raw{element(-1, "a"), element(0, "b"), element(0, "c"), element(1, "d"), text(2, "x"), element(3, "e"), text(1, "y")})
	under := [][]int{{0}, {0, 1}, {0, 2}, {0, 1, 3}, {0, 2, 4}, {0, 1, 3, 5}, {0, 1, 6}}
	for i, tops := range under {
		for top := range under {
			if got := x.Under(i, top); got != slices.Contains(tops, top) {
				t.Errorf("Under(%d, %d) = %v", i, top, got)
			}
		}
	}
	for _, i := range strange(7) {
		for _, k := range append(strange(7), 0, 1, 6) {
			if x.Under(i, k) || x.Under(k, i) {
				t.Errorf("Under of %d and %d", i, k)
			}
		}
	}
}

// some is a table that may be, of n nodes, by chance.
func some(r *rand.Rand, n int) []api.Raw {
	l := table(-1)
	depth := []int{1}
	for len(l) < n {
		p := r.Intn(len(l))
		if r.Intn(2) == 0 {
			p = len(l) - 1 - r.Intn(min(len(l), 3))
		}
		if l[p].Tag == "" || depth[p] == api.MaxDepth {
			continue
		}
		depth = append(depth, depth[p]+1)
		if r.Intn(3) == 0 {
			l = append(l, text(p, "x"))
		} else {
			l = append(l, element(p, "e"+strconv.Itoa(len(l))))
		}
	}
	return l
}

// above is i and all that it is within, by the words of P7.2 alone.
func above(l []api.Raw, i int) []int {
	if i < 0 {
		return nil
	}
	return append(above(l, l[i].Parent), i)
}

// beside is the siblings that look is true of, rising.
func beside(l []api.Raw, parent int, look func(i int) bool) []int {
	var out []int
	for i, r := range l {
		if r.Parent == parent && look(i) {
			out = append(out, i)
		}
	}
	return out
}

func TestWalksOfSomeTables(t *testing.T) { // P7.2
	r := rand.New(rand.NewSource(7))
	for range 300 {
		l := some(r, 1+r.Intn(40))
		x := tree(t, l)
		order := make([]int, len(l))
		for i := range l {
			order[i] = i
			up := above(l, i)
			node(t, x, i, l[i])
			is(t, "Depth", x.Depth(i), len(up))
			is(t, "Kids", x.Kids(i), beside(l, i, func(int) bool { return true }))
			is(t, "Elements", x.Elements(i), beside(l, i, func(k int) bool { return l[k].Tag != "" }))
			before := beside(l, l[i].Parent, func(k int) bool { return k < i && l[k].Tag != "" })
			slices.Reverse(before)
			is(t, "Before", x.Before(i), before)
			for top := range l {
				is(t, "Under", x.Under(i, top), slices.Contains(up, top))
			}
		}
		// In document order, who stands first where two part is the lesser sibling, or the one that the other is within.
		slices.SortFunc(order, func(a, b int) int { return slices.Compare(above(l, a), above(l, b)) })
		is(t, "Order", x.Order(), order)
		if t.Failed() {
			t.Fatalf("table: %v", l)
		}
	}
}

func TestGreatTables(t *testing.T) { // P7.2
	r := rand.New(rand.NewSource(1))
	for _, l := range [][]api.Raw{flat(api.MaxNodes), some(r, api.MaxNodes), append(chain(api.MaxDepth), slices.Repeat([]api.Raw{element(api.MaxDepth-2, "b")}, api.MaxNodes-api.MaxDepth)...)} {
		x := tree(t, l)
		order := x.Order()
		is(t, "how many of Order", len(order), len(l))
		is(t, "the first of Order", order[0], 0)
		slices.Sort(order)
		is(t, "how many unlike of Order", len(slices.Compact(order)), len(l))
		for i := range l {
			if !x.Under(i, 0) || x.Depth(i) > api.MaxDepth {
				t.Fatalf("node %d of a great table", i)
			}
		}
	}
}

// nothing asks a tree for its nodes, of which there are none.
func nothing(t *testing.T, x *dom.Tree) {
	t.Helper()
	is(t, "Len", x.Len(), 0)
	is(t, "Order", x.Order(), nil)
	for _, i := range append(strange(1), 0) {
		if got, ok := x.Node(i); ok || !reflect.DeepEqual(got, api.Raw{}) {
			t.Errorf("Node(%d) = %v, %v", i, got, ok)
		}
		if got, ok := x.Attr(i, "a"); ok || got != "" {
			t.Errorf("Attr(%d) = %q, %v", i, got, ok)
		}
		is(t, "Kids", x.Kids(i), nil)
		is(t, "Elements", x.Elements(i), nil)
		is(t, "Depth", x.Depth(i), 0)
		is(t, "Before", x.Before(i), nil)
		is(t, "Has", x.Has(i, "a") || x.Has(i, ""), false)
		is(t, "Under", x.Under(i, i) || x.Under(i, 0) || x.Under(0, i), false)
	}
}

func TestNilTree(t *testing.T) { // P7.2
	nothing(t, nil)
	nothing(t, new(dom.Tree))
}

func TestNewLeavesTable(t *testing.T) { // P7.3
	attrs := []api.Attr{{Name: "B", Value: "1"}, {Name: "b", Value: "2"}, {Name: "SPARE", Value: "3"}}
	room := []api.Raw{{Parent: -1, Tag: "A", Attrs: attrs[:2]}, {Parent: 0, Text: "X", Attrs: attrs[:1]}, {Parent: 7, Tag: "SPARE"}}
	wasAttrs, wasRoom := slices.Clone(attrs), slices.Clone(room)
	x := tree(t, room[:2])
	if !reflect.DeepEqual(attrs, wasAttrs) || !reflect.DeepEqual(room, wasRoom) {
		t.Errorf("New changed its table, or what is behind it: %v", room)
	}
	clear(attrs)
	clear(room)
	node(t, x, 0, with(-1, "a", "b", "1"))
	node(t, x, 1, text(0, "X"))
}

func TestAnswersAreTheirOwn(t *testing.T) { // P7.3
	l := []api.Raw{with(-1, "a", "b", "1", "c", "2"), element(0, "b"), text(0, "x"), element(0, "c"), element(0, "d")}
	x := tree(t, l)
	n, _ := x.Node(0)
	lists := [][]int{x.Kids(0), x.Elements(0), x.Before(4), x.Order()}
	spoil := func() {
		clear(n.Attrs[:cap(n.Attrs)])
		for _, l := range lists {
			for i := range l[:cap(l)] {
				l[:cap(l)][i] = 99
			}
		}
	}
	spoil()
	for range 2 {
		node(t, x, 0, l[0])
		for i, want := range [][]int{{1, 2, 3, 4}, {1, 3, 4}, {3, 1}, {0, 1, 2, 3, 4}} {
			is(t, "an answer", [][]int{x.Kids(0), x.Elements(0), x.Before(4), x.Order()}[i], want)
		}
		spoil()
	}
}

func TestTreesAreTheirOwn(t *testing.T) { // P7.3
	l := table(-1, 0, 0)
	x, y := tree(t, l), tree(t, append(l, element(1, "z")))
	is(t, "Kids of the first tree", x.Kids(1), nil)
	is(t, "Kids of the other tree", y.Kids(1), []int{3})
	is(t, "Len of the first tree", x.Len(), 3)
}
