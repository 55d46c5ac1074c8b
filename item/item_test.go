package item_test

import (
	"math"
	"math/big"
	"reflect"
	"regexp"
	"slices"
	"strconv"
	"strings"
	"testing"

	"fleuron/api"
	"fleuron/cascade"
	"fleuron/computed"
	"fleuron/dom"
	"fleuron/item"
	"fleuron/prop"
	"fleuron/rules"
	"fleuron/scope"
)

const (
	most  = math.MaxInt32
	least = math.MinInt32
)

// element is one with attributes, of which names and values are handed in by turns.
func element(parent int, tag string, l ...string) api.Raw {
	r := api.Raw{Parent: parent, Tag: tag}
	for i := 0; i < len(l); i += 2 {
		r.Attrs = append(r.Attrs, api.Attr{Name: l[i], Value: l[i+1]})
	}
	return r
}

// text is a text.
func text(parent int) api.Raw { return api.Raw{Parent: parent, Text: "x"} }

// page is a table's tree, and its styles by an author's sheet.
func page(t *testing.T, author string, l ...api.Raw) (*dom.Tree, *computed.Styles) {
	t.Helper()
	read, e := rules.Sheet([]byte(author))
	if e != api.OK {
		t.Fatalf("Sheet(%s) = %d", author, e)
	}
	x, e := dom.New(l)
	if e != api.OK {
		t.Fatalf("New(%v) = %d", l, e)
	}
	return x, computed.New(cascade.New(nil, read), x)
}

// one is a list of the pair that a hint is.
func one(n int) []api.Pair { return []api.Pair{{Name: "list-item", N: n}} }

// rev is likewise, reversed.
func rev(n int) []api.Pair { return []api.Pair{{Name: "list-item", N: n, Rev: true}} }

// hints asks Hints.
func hints(t *testing.T, x *dom.Tree, y *computed.Styles, i int, reset, set []api.Pair) {
	t.Helper()
	gotReset, gotSet := item.Hints(x, y, i)
	if !slices.Equal(gotReset, reset) || !slices.Equal(gotSet, set) {
		raw, _ := x.Node(i)
		t.Errorf("Hints of node %d, %v:\n got %+v, %+v\nwant %+v, %+v", i, raw, gotReset, gotSet, reset, set)
	}
}

// counts asks Count.
func counts(t *testing.T, x *dom.Tree, y *computed.Styles, i, want int) {
	t.Helper()
	if got := item.Count(x, y, i); got != want {
		t.Errorf("Count(%d) = %d, want %d", i, got, want)
	}
}

// steps asks Step; 0 is none.
func steps(t *testing.T, st api.Style, s scope.Set, want int) {
	t.Helper()
	pair := api.Pair{}
	if want != 0 {
		pair = api.Pair{Name: "list-item", N: want}
	}
	if got, ok := item.Step(st, s); got != pair || ok != (want != 0) {
		t.Errorf("Step(%+v, %v) = %+v, %t, want %d", st, s, got, ok, want)
	}
}

// reads asks Number.
func reads(t *testing.T, s string, want int, ok bool) {
	t.Helper()
	if got, is := item.Number(s); got != want || is != ok {
		t.Errorf("Number(%q) = %d, %t, want %d, %t", s, got, is, want, ok)
	}
}

// strange is indexes of no node of n.
func strange(n int) []int {
	return []int{math.MinInt, least, -2, -1, n, n + 1, most, most + 1, math.MaxInt}
}

func TestNumber(t *testing.T) { // P16.1
	for s, want := range map[string]int{
		"5": 5, "0": 0, "-0": 0, "+0": 0, "-7": -7, "+7": 7, "007": 7, "-0012": -12,
		" 5": 5, "\t5": 5, "\n5": 5, " \n\t \n-5 ": -5, "5 6": 5, "5-6": 5, "5+": 5,
		"5x": 5, "5.9": 5, "5e3": 5, "5%": 5, "5\x00": 5, "5\xff": 5, "5\u0660": 5, "0x10": 0, "1_000": 1,
	} {
		reads(t, s, want, true)
	}
	for _, s := range []string{
		"", " ", "\n\t", "-", "+", "- ", "+x", "x", "x5", ".5", "-.5", "#5", "--5", "+-5", "-+5", "++5", "- 5", "+\n5",
		"\f5", "\r5", "\v5", "\x005", "\u00a05", "\u20035", "\u00855", "\ufeff5", "\xff5", "\xa05", " \f5",
		"\u0665", "\uff15", "\u00b2", "\u2212" + "5", "\u2167", "a\xb5", "\xb5",
	} {
		reads(t, s, 0, false)
	}
}

func TestNumberOfEveryText(t *testing.T) { // P16.1
	pattern := regexp.MustCompile(`^[ \t\n]*([+-]?[0-9]+)`)
	var fill func(s string, n int)
	fill = func(s string, n int) {
		m := pattern.FindStringSubmatch(s)
		want := 0
		if m != nil {
			want, _ = strconv.Atoi(m[1])
		}
		reads(t, s, want, m != nil)
		if n == 0 {
			return
		}
		for _, next := range " \t\n\f+-0279/:.xé" {
			fill(s+string(next), n-1)
		}
	}
	fill("", 4)
}

func TestNumberHeld(t *testing.T) { // P16.1
	for _, s := range []string{
		"2147483646", "2147483647", "2147483648", "2147483649", "4294967295", "4294967296", "4294967297", "99999999999",
		"9223372036854775807", "9223372036854775808", "18446744073709551615", "18446744073709551616", "18446744073709551617",
		"340282366920938463463374607431768211461", "00000000000000000000000000002147483646", strings.Repeat("9", 5000), strings.Repeat("0", 5000) + "12",
	} {
		n, _ := new(big.Int).SetString(s, 10)
		up, down := most, least
		if n.Cmp(big.NewInt(most)) < 0 {
			up = int(n.Int64())
		}
		if n.Cmp(big.NewInt(-least)) < 0 {
			down = -int(n.Int64())
		}
		for _, behind := range []string{"", " ", "x", ".5", "e9"} {
			reads(t, s+behind, up, true)
			reads(t, " +"+s+behind, up, true)
			reads(t, "\n-"+s+behind, down, true)
		}
	}
}

func TestCount(t *testing.T) { // P16.1
	x, y := page(t, "li, .y { display: list-item } .n { display: none } .b { display: block }",
		element(-1, "ol"), element(0, "li"), text(0), element(0, "p"), element(0, "p", "class", "y"), // 0 to 4
		element(0, "li", "class", "n"), element(0, "li", "class", "b"), element(3, "li"), element(1, "ol"), // 5 to 8
		element(8, "li"), text(8), element(8, "LI"), element(5, "li"), element(7, "p")) // 9 to 13
	for i, want := range []int{2, 0, 0, 1, 0, 1, 0, 0, 2, 0, 0, 0, 0, 0} {
		counts(t, x, y, i, want)
	}
	for _, i := range strange(14) {
		counts(t, x, y, i, 0)
	}
}

func TestCountInherited(t *testing.T) { // P16.1: what holds, whoever said it
	x, y := page(t, "a { display: list-item } b { display: inherit } c { display: initial } c { display: list-item }",
		element(-1, "a"), element(0, "b"), element(0, "c"), element(1, "b"), element(1, "d"))
	for i, want := range []int{2, 1, 0, 0, 0} {
		counts(t, x, y, i, want)
	}
}

func TestHintsOfOl(t *testing.T) { // P16.2
	for _, c := range []struct {
		attrs []string
		want  []api.Pair
	}{
		{nil, one(0)},
		{[]string{"start", "5"}, one(4)},
		{[]string{"START", " \n+5x"}, one(4)},
		{[]string{"start", "1"}, one(0)},
		{[]string{"start", "0"}, one(-1)},
		{[]string{"start", "-7"}, one(-8)},
		{[]string{"start", ""}, one(0)},
		{[]string{"start", "x5"}, one(0)},
		{[]string{"start", "-"}, one(0)},
		{[]string{"start", "x", "start", "5"}, one(0)},
		{[]string{"start", "5", "start", "6"}, one(4)},
		{[]string{"value", "5", "type", "a"}, one(0)},
		{[]string{"start", "2147483647"}, one(most - 1)},
		{[]string{"start", "99999999999999999999"}, one(most - 1)},
		{[]string{"start", "-2147483647"}, one(least)},
		{[]string{"start", "-2147483648"}, one(least)},
		{[]string{"start", "-99999999999999999999"}, one(least)},
		{[]string{"reversed", ""}, rev(3)},
		{[]string{"Reversed", "false"}, rev(3)},
		{[]string{"reversed", "", "start", "x"}, rev(3)},
		{[]string{"reversed", "", "start", ""}, rev(3)},
		{[]string{"reversed", "9", "value", "9"}, rev(3)},
		{[]string{"reversed", "", "start", "9"}, rev(10)},
		{[]string{"start", "0", "reversed", ""}, rev(1)},
		{[]string{"start", "-1", "reversed", ""}, rev(0)},
		{[]string{"start", "-2147483648", "reversed", ""}, rev(least + 1)},
		{[]string{"start", "2147483645", "reversed", ""}, rev(most - 1)},
		{[]string{"start", "2147483646", "reversed", ""}, rev(most)},
		{[]string{"start", "2147483647", "reversed", ""}, rev(most)},
		{[]string{"start", "99999999999999999999", "reversed", ""}, rev(most)},
	} {
		for _, tag := range []string{"ol", "OL", "oL"} {
			x, y := page(t, "li { display: list-item }", element(-1, "a"), element(0, tag, c.attrs...), element(1, "li"), text(1), element(1, "p"), element(1, "li", "value", "x"), element(2, "li"))
			hints(t, x, y, 1, c.want, nil)
			hints(t, x, y, 0, nil, nil)
		}
	}
}

func TestHintsOfManyItems(t *testing.T) { // P16.2
	l := []api.Raw{element(-1, "ol", "reversed", "")}
	for len(l) < api.MaxNodes {
		l = append(l, element(0, "li"))
	}
	x, y := page(t, "li { display: list-item }", l...)
	hints(t, x, y, 0, rev(api.MaxNodes), nil)
	x, y = page(t, "", l...)
	hints(t, x, y, 0, rev(1), nil)
}

func TestHintsOfUl(t *testing.T) { // P16.2
	for _, tag := range []string{"ul", "menu", "UL", "Menu"} {
		for _, attrs := range [][]string{nil, {"start", "5"}, {"reversed", ""}, {"reversed", "", "start", "5"}, {"value", "5"}} {
			x, y := page(t, "* { display: list-item }", element(-1, tag, attrs...), element(0, "li"))
			hints(t, x, y, 0, one(0), nil)
		}
	}
}

func TestHintsOfLi(t *testing.T) { // P16.2
	for value, want := range map[string][]api.Pair{
		"7": one(7), "\t-7x": one(-7), "+0": one(0), "2147483647": one(most), "-2147483648": one(least), "2147483648": one(most), "-9999999999": one(least),
		"": nil, "x": nil, " - 7": nil, "\f7": nil,
	} {
		for _, sheet := range []string{"", "li { display: list-item }", "li { display: none }"} {
			x, y := page(t, sheet, element(-1, "ol"), element(0, "LI", "Value", value, "start", "3", "reversed", ""), element(0, "p", "value", value), element(2, "li", "value", value))
			hints(t, x, y, 0, one(0), nil)
			hints(t, x, y, 1, nil, want)
			hints(t, x, y, 2, nil, nil)
			hints(t, x, y, 3, nil, want)
		}
	}
	x, y := page(t, "", element(-1, "li"), element(0, "li", "start", "3", "reversed", ""))
	hints(t, x, y, 0, nil, nil)
	hints(t, x, y, 1, nil, nil)
}

func TestHintsOfOthers(t *testing.T) { // P16.2
	attrs := []string{"start", "5", "reversed", "", "value", "7"}
	l := []api.Raw{element(-1, "html", attrs...)}
	for _, tag := range []string{"p", "dir", "dl", "ols", "o", "l", "ol ", "list-item", "menuitem", "lis", "\u00f6l", "o\u0142"} {
		l = append(l, element(0, tag, attrs...))
	}
	l = append(l, text(0), api.Raw{Parent: 0, Text: "ol", Attrs: []api.Attr{{Name: "value", Value: "7"}}})
	x, y := page(t, "* { display: list-item }", l...)
	for i := range l {
		hints(t, x, y, i, nil, nil)
	}
	for _, i := range strange(len(l)) {
		hints(t, x, y, i, nil, nil)
	}
}

func TestHintsOverridden(t *testing.T) { // P16.2
	all := []api.Raw{element(-1, "ol", "start", "5"), element(0, "ul"), element(0, "menu"), element(0, "li", "value", "7"), element(0, "ol", "reversed", "")}
	for _, c := range []struct {
		sheet      string
		reset, set bool
	}{
		{"", true, true},
		{"* { counter-reset: list-item }", false, true},
		{"* { counter-reset: list-item 3 }", false, true},
		{"* { counter-reset: reversed(list-item) }", false, true},
		{"* { counter-reset: a list-item b }", false, true},
		{"* { counter-reset: a 2 b reversed(c) }", true, true},
		{"* { counter-reset: LIST-ITEM }", true, true},
		{"* { counter-reset: list-items }", true, true},
		{"* { counter-reset: none }", true, true},
		{"* { counter-set: list-item }", true, false},
		{"* { counter-set: a 1 list-item 7 }", true, false},
		{"* { counter-set: a b 2 }", true, true},
		{"* { counter-set: List-Item }", true, true},
		{"* { counter-set: list-item 3; counter-reset: list-item }", false, false},
		{"* { counter-increment: list-item 3 }", true, true},
		{"*::before { counter-reset: list-item; counter-set: list-item }", true, true},
		{"* { counter-reset: list-item 1.5; counter-set: 3 list-item }", true, true},
	} {
		x, y := page(t, c.sheet, all...)
		resets, sets := [][]api.Pair{one(4), one(0), one(0), nil, rev(1)}, [][]api.Pair{nil, nil, nil, one(7), nil}
		for i := range all {
			if !c.reset {
				resets[i] = nil
			}
			if !c.set {
				sets[i] = nil
			}
			hints(t, x, y, i, resets[i], sets[i])
		}
		if t.Failed() {
			t.Fatalf("sheet: %s", c.sheet)
		}
	}
}

func TestStep(t *testing.T) { // P16.2
	up := scope.Set{{Name: "list-item", Rev: true}, {Name: "list-item", N: -4}, {Name: "x", Rev: true}, {Name: "LIST-ITEM", Rev: true}}
	down := scope.Set{{Name: "list-item"}, {Name: "list-item", Of: 3, N: 4, Rev: true}, {Name: "x"}, {Name: ""}}
	other := scope.Set{{Name: "x", Rev: true}, {Name: "", Rev: true}, {Name: "list-item ", Rev: true}}
	sets := []scope.Set{nil, {}, up, down, other, {{Name: "list-item", Rev: true}}, {{Name: "list-item"}}}
	for i, want := range []int{1, 1, 1, -1, 1, -1, 1} {
		for _, st := range []api.Style{
			{Display: "list-item"},
			{Display: "list-item", Add: []api.Pair{}},
			{Display: "list-item", Add: []api.Pair{{Name: "x", N: 5}, {Name: "List-Item"}, {Name: ""}}},
			{Display: "list-item", Reset: one(3), Set: rev(4), ListType: "none", None: true},
		} {
			steps(t, st, sets[i], want)
		}
		for _, st := range []api.Style{
			{},
			{Display: "none"},
			{Display: "block"},
			{Display: "inline"},
			{Display: "LIST-ITEM"},
			{Display: "list-item "},
			{Display: "list-item", Add: one(1)},
			{Display: "list-item", Add: one(0)},
			{Display: "list-item", Add: rev(2)},
			{Display: "list-item", Add: []api.Pair{{Name: "x"}, {Name: "list-item", N: 5}, {Name: "y"}}},
			{Display: "block", Add: one(1)},
			prop.Start(),
		} {
			steps(t, st, sets[i], 0)
		}
	}
}

// numbered is the number of each li of a list, in the order of the document, as chapter 19 walks.
func numbered(x *dom.Tree, y *computed.Styles) []int {
	var out []int
	reset, _ := item.Hints(x, y, 0)
	list := scope.Reset(nil, 0, nil, reset[0])
	last := list
	for _, i := range x.Elements(0) {
		s := scope.Begin(list, nil, last, x.Before(i))
		st, _ := y.Style(i, api.Self)
		if step, ok := item.Step(st, s); ok {
			s = scope.Add(s, i, step)
		}
		_, set := item.Hints(x, y, i)
		for _, p := range set {
			s = scope.Put(s, i, p)
		}
		n, _ := scope.Value(s, "list-item")
		out = append(out, n)
		last = s
	}
	return out
}

func TestLists(t *testing.T) { // P16.1, P16.2: the document's example, and such
	for _, c := range []struct {
		list, second []string
		want         []int
	}{
		{nil, nil, []int{1, 2, 3}},
		{[]string{"reversed", ""}, nil, []int{3, 2, 1}},
		{[]string{"start", "5"}, nil, []int{5, 6, 7}},
		{[]string{"start", "5", "reversed", ""}, nil, []int{5, 4, 3}},
		{[]string{"reversed", ""}, []string{"value", "9"}, []int{3, 9, 8}},
		{nil, []string{"value", "9"}, []int{1, 9, 10}},
	} {
		x, y := page(t, "li { display: list-item }", element(-1, "ol", c.list...), element(0, "li"), element(0, "li", c.second...), element(0, "li"))
		if got := numbered(x, y); !slices.Equal(got, c.want) {
			t.Errorf("an ol of %v: %v, want %v", c.list, got, c.want)
		}
	}
}

func TestNil(t *testing.T) { // P16.1, P16.2: a nil Tree or Styles tells nothing
	l := []api.Raw{element(-1, "ol", "reversed", ""), element(0, "li", "value", "7"), element(0, "ul"), element(0, "ol", "start", "5")}
	x, y := page(t, "* { display: list-item; counter-reset: list-item; counter-set: list-item }", l...)
	for _, i := range append(strange(4), 0, 1, 2, 3) {
		for _, z := range []*computed.Styles{nil, y} {
			hints(t, nil, z, i, nil, nil)
			counts(t, nil, z, i, 0)
		}
		counts(t, x, nil, i, 0)
	}
	// what the table says is said still
	hints(t, x, nil, 0, rev(1), nil)
	hints(t, x, nil, 1, nil, one(7))
	hints(t, x, nil, 2, one(0), nil)
	hints(t, x, nil, 3, one(4), nil)
}

func TestStylesOfAnother(t *testing.T) { // P16.1, P16.2: of a tree with fewer nodes, and none of them a text
	_, y := page(t, "li { display: list-item }", element(-1, "ol"), element(0, "li"), element(0, "li"))
	x, _ := page(t, "", element(-1, "ol", "reversed", ""), element(0, "p"), text(0), element(0, "li", "value", "7"), element(0, "li"))
	counts(t, x, y, 0, 1)
	hints(t, x, y, 0, rev(2), nil)
	hints(t, x, y, 3, nil, one(7))
}

func TestOwnMemory(t *testing.T) { // P16.3
	x, y := page(t, "li { display: list-item }", element(-1, "ol", "start", "5"), element(0, "li", "value", "7"), element(0, "ul"))
	for range 3 {
		for i, want := range [][2][]api.Pair{{one(4), nil}, {nil, one(7)}, {one(0), nil}} {
			hints(t, x, y, i, want[0], want[1])
			reset, set := item.Hints(x, y, i)
			for _, l := range [][]api.Pair{reset, set} {
				l = l[:cap(l)]
				for k := range l {
					l[k] = api.Pair{Name: "spoilt", N: -99, Auto: true}
				}
			}
		}
	}
}

func TestNotChanged(t *testing.T) { // P16.3
	fresh := func() (api.Style, scope.Set) {
		st := prop.Start()
		st.Display = "list-item"
		st.Add = []api.Pair{{Name: "x", N: 1}, {Name: "y"}, {Name: "list-item", N: 9}}[:2]
		st.Reset, st.Set = one(1), one(2)
		return st, scope.Set{{Name: "list-item", Rev: true}, {Name: "x"}, {Name: "list-item"}}[:2]
	}
	st, s := fresh()
	steps(t, st, s, -1)
	wasStyle, wasSet := fresh()
	if !reflect.DeepEqual(st, wasStyle) || !reflect.DeepEqual(s[:3], wasSet[:3]) || !reflect.DeepEqual(st.Add[:3], wasStyle.Add[:3]) {
		t.Errorf("Step changes what is handed in: %+v, %v", st, s[:3])
	}
	// nor kept: another style, another set
	st.Add[0].Name, s[0].Rev = "list-item", false
	steps(t, st, s, 0)
	st.Add[0].Name = "x"
	steps(t, st, s, 1)

	l := []api.Raw{element(-1, "ol", "reversed", ""), element(0, "li"), text(0)}
	x, y := page(t, "li { display: list-item; counter-reset: a }", l...)
	before, _ := y.Style(1, api.Self)
	hints(t, x, y, 0, rev(2), nil)
	counts(t, x, y, 0, 1)
	after, _ := y.Style(1, api.Self)
	if !computed.Same(before, after) {
		t.Errorf("the style of an li is %+v, was %+v", after, before)
	}
	for i, want := range l {
		if got, _ := x.Node(i); got.Parent != want.Parent || got.Tag != want.Tag || got.Text != want.Text || !slices.Equal(got.Attrs, want.Attrs) {
			t.Errorf("node %d is %v, was %v", i, got, want)
		}
	}
}
