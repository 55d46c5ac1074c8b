package computed_test

import (
	"math"
	"reflect"
	"slices"
	"strconv"
	"strings"
	"testing"

	"fleuron/api"
	"fleuron/cascade"
	"fleuron/computed"
	"fleuron/dom"
	"fleuron/prop"
	"fleuron/rules"
)

// read is the rules of a text.
func read(t *testing.T, s string) []api.Rule {
	t.Helper()
	l, e := rules.Sheet([]byte(s))
	if e != api.OK {
		t.Fatalf("Sheet(%s) = %d", s, e)
	}
	return l
}

// sheet is a sheet of an author's text.
func sheet(t *testing.T, author string) *cascade.Sheet {
	t.Helper()
	return cascade.New(nil, read(t, author))
}

// element is one with attributes, of which names and values are handed in by turns.
func element(parent int, tag string, l ...string) api.Raw {
	r := api.Raw{Parent: parent, Tag: tag}
	for i := 0; i < len(l); i += 2 {
		r.Attrs = append(r.Attrs, api.Attr{Name: l[i], Value: l[i+1]})
	}
	return r
}

// text is a text.
func text(parent int, s string) api.Raw { return api.Raw{Parent: parent, Text: s} }

// tree is the tree of a table that may be.
func tree(t *testing.T, l ...api.Raw) *dom.Tree {
	t.Helper()
	x, e := dom.New(l)
	if e != api.OK {
		t.Fatalf("New(%v) = %d", l, e)
	}
	return x
}

// page is the tree that most tests have: a; b in it; c in b; a text in a; d in a.
func page(t *testing.T) *dom.Tree {
	t.Helper()
	return tree(t, element(-1, "a"), element(0, "b"), element(1, "c"), text(0, "x"), element(0, "d"))
}

// plain is a style in which an empty list is nil.
func plain(s api.Style) api.Style {
	s.Content = append([]api.Item(nil), s.Content...)
	s.Quotes = append([]string(nil), s.Quotes...)
	for _, l := range []*[]api.Pair{&s.Reset, &s.Add, &s.Set} {
		*l = append([]api.Pair(nil), *l...)
	}
	return s
}

// same compares two styles; nil and an empty list are the same.
func same(a, b api.Style) bool { return reflect.DeepEqual(plain(a), plain(b)) }

// start is what holds at first, as 12 has it.
func start() api.Style {
	return api.Style{Display: "inline", ListType: "disc", Color: "black", Normal: true, Auto: true}
}

// allNames is all properties, as 12 has them.
const allNames = "color content counter-increment counter-reset counter-set display list-style-type quotes"

// names is the same, one by one.
func names() []string { return strings.Fields(allNames) }

// strange is texts that are none of these.
func strange() []string {
	return []string{"", "x", "Color", "COLOR", " color", "color ", "colo", "colors", "content\x00", "counter", "list-style", "--color", "quotes quotes", "\xff"}
}

// numbers is those that are no pseudo-element, and no node.
func numbers() []int {
	return []int{math.MinInt, math.MinInt32, -2, -1, 1000, 1001, math.MaxInt32, math.MaxInt}
}

// full is a style of which all says something of its own: of s.
func full(s string) api.Style {
	return api.Style{
		Display: "d" + s, ListType: "l" + s, Color: "c" + s,
		Content: []api.Item{{Kind: 1, Text: "i" + s, Sep: "s" + s, Style: "y" + s}, {Kind: 2}},
		Quotes:  []string{"q" + s, "r" + s},
		Reset:   []api.Pair{{Name: "t" + s, N: 1, Rev: true, Auto: true}, {N: -1}},
		Add:     []api.Pair{{Name: "a" + s, N: 2}, {Rev: true}},
		Set:     []api.Pair{{Name: "e" + s, N: 3}, {Auto: true}},
	}
}

// flags is a style with Normal, None and Auto.
func flags(s api.Style, normal, none, auto bool) api.Style {
	s.Normal, s.None, s.Auto = normal, none, auto
	return s
}

// put writes what a name stands for over s.
func put(s *api.Style, from api.Style, name string) {
	switch name {
	case "color":
		s.Color = from.Color
	case "content":
		s.Content, s.Normal, s.None = from.Content, from.Normal, from.None
	case "counter-increment":
		s.Add = from.Add
	case "counter-reset":
		s.Reset = from.Reset
	case "counter-set":
		s.Set = from.Set
	case "display":
		s.Display = from.Display
	case "list-style-type":
		s.ListType = from.ListType
	case "quotes":
		s.Quotes, s.Auto = from.Quotes, from.Auto
	}
}

// allowed is what each pseudo-element may have.
func allowed(pseudo int, name string) bool {
	switch pseudo {
	case 0, 1, 2:
		return slices.Contains(names(), name)
	case 3:
		return name == "color" || name == "content"
	case 4, 5:
		return name == "color"
	}
	return false
}

// inherits tells whether a name does.
func inherits(name string) bool {
	return name == "color" || name == "list-style-type" || name == "quotes"
}

// of is Of, word by word.
func of(won []prop.Value, pseudo int, parent api.Style) api.Style {
	s := start()
	put(&s, parent, "color")
	put(&s, parent, "list-style-type")
	put(&s, parent, "quotes")
	for _, v := range won {
		switch {
		case !allowed(pseudo, v.Name):
		case v.Wide == 0:
			put(&s, v.Style, v.Name)
		case v.Wide == 1, v.Wide == 3 && inherits(v.Name):
			put(&s, parent, v.Name)
		case v.Wide == 2, v.Wide == 3:
			put(&s, start(), v.Name)
		}
	}
	return s
}

// tells asks Of.
func tells(t *testing.T, won []prop.Value, pseudo int, parent, want api.Style) {
	t.Helper()
	if got := computed.Of(won, pseudo, parent); !same(got, want) {
		t.Errorf("Of(%+v, %d, %+v):\n got %+v\nwant %+v", won, pseudo, parent, got, want)
	}
}

// holds asks Style of a place that has one.
func holds(t *testing.T, x *computed.Styles, i, pseudo int, want api.Style) {
	t.Helper()
	if got, ok := x.Style(i, pseudo); !ok || !same(got, want) {
		t.Errorf("Style(%d, %d):\n got %+v, %t\nwant %+v", i, pseudo, got, ok, want)
	}
}

// none asks Style of a place that has none.
func none(t *testing.T, x *computed.Styles, i, pseudo int) {
	t.Helper()
	if got, ok := x.Style(i, pseudo); ok || !reflect.DeepEqual(got, api.Style{}) {
		t.Errorf("Style(%d, %d) = %+v, %t", i, pseudo, got, ok)
	}
}

// with is what holds at first, but for what is changed.
func with(change func(s *api.Style)) api.Style {
	s := start()
	change(&s)
	return s
}

// colored is what holds at first, of a color.
func colored(color string) api.Style { return with(func(s *api.Style) { s.Color = color }) }

func TestAllowed(t *testing.T) { // P14.1
	for pseudo := -3; pseudo <= 9; pseudo++ {
		for _, name := range append(names(), strange()...) {
			if got := computed.Allowed(pseudo, name); got != allowed(pseudo, name) {
				t.Errorf("Allowed(%d, %q) = %t", pseudo, name, got)
			}
		}
	}
	for _, pseudo := range numbers() {
		for _, name := range names() {
			if computed.Allowed(pseudo, name) {
				t.Errorf("Allowed(%d, %q)", pseudo, name)
			}
		}
	}
}

func TestOfNothing(t *testing.T) { // P14.1
	for pseudo := -1; pseudo <= 6; pseudo++ {
		tells(t, nil, pseudo, start(), start())
		tells(t, []prop.Value{}, pseudo, full("p"), api.Style{Display: "inline", ListType: "lp", Color: "cp", Normal: true, Quotes: []string{"qp", "rp"}})
		tells(t, nil, pseudo, api.Style{}, api.Style{Display: "inline", Normal: true})
		tells(t, nil, pseudo, api.Style{Auto: true, None: true}, api.Style{Display: "inline", Normal: true, Auto: true})
	}
}

func TestOfOne(t *testing.T) { // P14.1
	parents := []api.Style{{}, start(), full("p"), flags(full("o"), true, false, true), flags(full("n"), false, true, true)}
	styles := []api.Style{{}, start(), full("s"), flags(full("r"), true, false, true), flags(full("q"), false, true, false)}
	for _, name := range append(names(), strange()...) {
		for pseudo := -1; pseudo <= 6; pseudo++ {
			for _, parent := range parents {
				for _, s := range styles {
					for wide := -1; wide <= 4; wide++ {
						won := []prop.Value{{Name: name, Wide: wide, Style: s}}
						tells(t, won, pseudo, parent, of(won, pseudo, parent))
					}
				}
			}
			if t.Failed() {
				return
			}
		}
	}
}

func TestOfWords(t *testing.T) { // P14.1: the same, written out
	p := full("p")
	from := with(func(s *api.Style) { s.Color, s.ListType, s.Quotes, s.Auto = p.Color, p.ListType, p.Quotes, false })
	wide := func(name string, how int) []prop.Value {
		return []prop.Value{{Name: name, Wide: how, Style: full("w")}} // the Style of one that is wide says nothing
	}
	tells(t, wide("color", prop.Inherit), 0, p, from)
	tells(t, wide("color", prop.Unset), 0, p, from)
	black := from
	black.Color = "black"
	tells(t, wide("color", prop.Initial), 4, p, black)
	auto := from
	auto.Quotes, auto.Auto = nil, true
	tells(t, wide("quotes", prop.Initial), 1, p, auto)
	block := from
	block.Display = p.Display
	tells(t, wide("display", prop.Inherit), 2, p, block)
	tells(t, wide("display", prop.Initial), 2, p, from)
	tells(t, wide("display", prop.Unset), 2, p, from)
	content := from
	content.Content, content.Normal = p.Content, false
	tells(t, wide("content", prop.Inherit), 3, p, content)
	tells(t, wide("content", prop.Unset), 3, p, from)
	tells(t, wide("content", prop.Inherit), 4, p, from)
	tells(t, wide("quotes", prop.Initial), 3, p, from)
	tells(t, wide("color", prop.Initial), 6, p, from)
	tells(t, wide("color", prop.Initial), -1, p, from)
}

func TestOfSeveral(t *testing.T) { // P14.1
	parent := full("p")
	said := func(name, s string) prop.Value { return prop.Value{Name: name, Style: full(s)} }
	wide := func(name string, how int) prop.Value { return prop.Value{Name: name, Wide: how} }
	// the last one of a name holds, whatever it is
	for _, won := range [][]prop.Value{
		{said("color", "1"), said("color", "2")},
		{said("color", "1"), wide("color", prop.Inherit)},
		{wide("color", prop.Initial), said("color", "2")},
		{said("display", "1"), wide("display", prop.Unset)},
		{said("content", "1"), said("content", "2"), wide("content", prop.Inherit)},
		{wide("quotes", prop.Initial), wide("quotes", prop.Unset)},
		{said("color", "1"), said("x", "2"), {Name: "color", Wide: 9, Style: full("3")}, {Name: "", Style: full("4")}},
		{said("quotes", "1"), said("display", "2"), said("color", "3"), said("counter-set", "4")}, // not in the order of Names
	} {
		for pseudo := -1; pseudo <= 6; pseudo++ {
			tells(t, won, pseudo, parent, of(won, pseudo, parent))
		}
	}
	// what is inherited is the parent's, not what holds by now
	won := []prop.Value{said("color", "1"), wide("color", prop.Inherit)}
	tells(t, won, 0, colored("red"), colored("red"))
	// all of them
	var all []prop.Value
	for _, name := range names() {
		all = append(all, said(name, name))
	}
	want := api.Style{}
	for _, name := range names() {
		put(&want, full(name), name)
	}
	tells(t, all, 0, parent, want)
	tells(t, all, 2, parent, want)
}

func TestExample(t *testing.T) { // P14.2
	x := computed.New(sheet(t, "a{color:inherit}"), page(t))
	holds(t, x, 0, 0, colored("black"))
}

func TestRoot(t *testing.T) { // P14.2: all that the root may inherit is what holds at first
	for _, word := range []string{"inherit", "initial", "unset"} {
		in := ""
		for _, name := range names() {
			in += name + ":" + word + ";"
		}
		x := computed.New(sheet(t, "*{"+in+"}"), page(t))
		for _, i := range []int{0, 1, 2, 4} {
			holds(t, x, i, 0, start())
			holds(t, x, i, 1, start())
		}
	}
}

func TestInherited(t *testing.T) { // P14.2
	x := computed.New(sheet(t, "a{color:red;list-style-type:'-';quotes:'<' '>';display:block;content:'x';counter-reset:r;counter-increment:i;counter-set:s} b{color:blue} d{color:initial;quotes:none}"), page(t))
	quotes := []string{"<", ">"}
	holds(t, x, 0, 0, api.Style{
		Color: "red", ListType: `"-`, Quotes: quotes, Display: "block", Content: []api.Item{{Kind: api.Words, Text: "x"}},
		Reset: []api.Pair{{Name: "r"}}, Add: []api.Pair{{Name: "i", N: 1}}, Set: []api.Pair{{Name: "s"}},
	})
	blue := api.Style{Color: "blue", ListType: `"-`, Quotes: quotes, Display: "inline", Normal: true}
	holds(t, x, 1, 0, blue)
	holds(t, x, 2, 0, blue)
	holds(t, x, 4, 0, api.Style{Color: "black", ListType: `"-`, Display: "inline", Normal: true})
	// each from its own Parent, as far up as what inherits goes on
	x = computed.New(sheet(t, "a{display:none;color:red} b,c{display:inherit} c{color:unset} d{display:unset;color:inherit}"), page(t))
	for _, i := range []int{0, 1, 2} {
		holds(t, x, i, 0, with(func(s *api.Style) { s.Display, s.Color = "none", "red" }))
	}
	holds(t, x, 4, 0, colored("red"))
}

func TestPseudo(t *testing.T) { // P14.2
	x := computed.New(sheet(t, `
		a{color:red;display:block;content:'x';counter-set:a} b{color:blue}
		a::before,b::before{display:inherit;content:inherit} b::before{color:green}
		a::after{color:inherit;counter-set:inherit;quotes:none}
		a::marker{content:'m';display:none;quotes:none;counter-set:z;list-style-type:none}
		a::first-letter{color:inherit;content:'f';display:none;quotes:none}
		a::first-line{color:gray;content:none}
		c::before{color:initial;display:unset}`), page(t))
	a := api.Style{Color: "red", ListType: "disc", Display: "block", Content: []api.Item{{Kind: api.Words, Text: "x"}}, Auto: true, Set: []api.Pair{{Name: "a"}}}
	holds(t, x, 0, api.Self, a)
	before := a
	before.Set = nil
	holds(t, x, 0, api.Before, before)
	after := colored("red")
	after.Set, after.Auto = a.Set, false
	holds(t, x, 0, api.After, after)
	holds(t, x, 0, api.Marker, with(func(s *api.Style) {
		s.Color, s.Normal, s.Content = "red", false, []api.Item{{Kind: api.Words, Text: "m"}}
	}))
	holds(t, x, 0, api.FirstLetter, colored("red"))
	holds(t, x, 0, api.FirstLine, colored("gray"))
	// of the element itself, neither of its Parent nor of a pseudo-element of it
	holds(t, x, 1, api.Before, colored("green"))
	for _, pseudo := range []int{api.Self, api.After, api.Marker, api.FirstLetter, api.FirstLine} {
		holds(t, x, 1, pseudo, colored("blue"))
	}
	holds(t, x, 2, api.Self, colored("blue"))
	holds(t, x, 2, api.Before, colored("black"))
	holds(t, x, 2, api.After, colored("blue"))
	holds(t, x, 4, api.Before, colored("red"))
}

func TestWhoWon(t *testing.T) { // P14.2
	agent := read(t, "b{color:gray;display:block;quotes:none!important}")
	s := cascade.New(agent, read(t, "b{color:red} b{color:5} c{color:nosuch x} a b{color:blue} b{color:green;quotes:'a' 'b'} @x b{color:white} c{color:inherit!important;color:white}"))
	x := computed.New(s, page(t))
	holds(t, x, 1, 0, with(func(s *api.Style) { s.Color, s.Display, s.Auto = "blue", "block", false }))
	holds(t, x, 2, 0, with(func(s *api.Style) { s.Color, s.Auto = "blue", false }))
	holds(t, x, 4, 0, start())
}

func TestNone(t *testing.T) { // P14.2
	s := sheet(t, "*,*::before{color:red;content:'x'}")
	x := computed.New(s, page(t))
	for range 2 {
		for pseudo := -3; pseudo <= 9; pseudo++ {
			none(t, x, 3, pseudo) // a text
			for _, n := range append(numbers(), 5) {
				none(t, x, n, pseudo)
			}
		}
		for _, pseudo := range append(numbers(), 6, 7) {
			for i := range 6 {
				none(t, x, i, pseudo)
			}
		}
	}
	for pseudo := range 6 {
		var nobody *computed.Styles
		for _, n := range append(numbers(), 0, 1) {
			none(t, nobody, n, pseudo)
			none(t, &computed.Styles{}, n, pseudo)
			none(t, computed.New(s, nil), n, pseudo)
			none(t, computed.New(s, &dom.Tree{}), n, pseudo)
			none(t, computed.New(nil, nil), n, pseudo)
		}
	}
}

func TestNoSheet(t *testing.T) { // P14.2: nobody wins
	for _, s := range []*cascade.Sheet{nil, {}, cascade.New(nil, nil)} {
		x := computed.New(s, page(t))
		for _, i := range []int{0, 1, 2, 4} {
			for pseudo := range 6 {
				holds(t, x, i, pseudo, start())
			}
		}
		none(t, x, 3, 0)
	}
}

func TestSame(t *testing.T) { // P14.2
	changes := []func(s *api.Style){
		func(s *api.Style) { s.Display += "x" },
		func(s *api.Style) { s.ListType = "" },
		func(s *api.Style) { s.Color = "C" + s.Color[1:] },
		func(s *api.Style) { s.Normal = !s.Normal },
		func(s *api.Style) { s.None = !s.None },
		func(s *api.Style) { s.Auto = !s.Auto },
		func(s *api.Style) { s.Content = nil },
		func(s *api.Style) { s.Content = s.Content[:1] },
		func(s *api.Style) { s.Content = append(s.Content, api.Item{}) },
		func(s *api.Style) { slices.Reverse(s.Content) },
		func(s *api.Style) { s.Content[0].Kind = 3 },
		func(s *api.Style) { s.Content[0].Text += " " },
		func(s *api.Style) { s.Content[0].Sep = "" },
		func(s *api.Style) { s.Content[1].Style = "x" },
		func(s *api.Style) { s.Quotes = nil },
		func(s *api.Style) { s.Quotes = append(s.Quotes, "") },
		func(s *api.Style) { slices.Reverse(s.Quotes) },
		func(s *api.Style) { s.Quotes[1] = "x" },
		func(s *api.Style) { s.Reset, s.Add = s.Add, s.Reset },
		func(s *api.Style) { s.Add, s.Set = s.Set, s.Add },
	}
	for _, list := range []func(s *api.Style) *[]api.Pair{
		func(s *api.Style) *[]api.Pair { return &s.Reset },
		func(s *api.Style) *[]api.Pair { return &s.Add },
		func(s *api.Style) *[]api.Pair { return &s.Set },
	} {
		changes = append(changes,
			func(s *api.Style) { *list(s) = nil },
			func(s *api.Style) { *list(s) = append(*list(s), api.Pair{}) },
			func(s *api.Style) { slices.Reverse(*list(s)) },
			func(s *api.Style) { (*list(s))[0].Name += "x" },
			func(s *api.Style) { (*list(s))[1].N-- },
			func(s *api.Style) { (*list(s))[0].Rev = !(*list(s))[0].Rev },
			func(s *api.Style) { (*list(s))[1].Auto = !(*list(s))[1].Auto },
		)
	}
	for n, change := range changes {
		s := full("x")
		change(&s)
		if computed.Same(s, full("x")) || computed.Same(full("x"), s) {
			t.Errorf("change %d: Same(%+v)", n, s)
		}
		other := full("x")
		change(&other)
		if !computed.Same(s, other) {
			t.Errorf("change %d: not Same(%+v)", n, s)
		}
	}
}

func TestSameOfNothing(t *testing.T) { // P14.2: nil and an empty list are the same
	empty := api.Style{Content: []api.Item{}, Quotes: make([]string, 0, 3), Reset: []api.Pair{}, Add: []api.Pair{}, Set: full("x").Set[:0]}
	for _, pair := range [][2]api.Style{{{}, {}}, {empty, {}}, {{}, empty}, {empty, empty}, {start(), start()}, {full(""), full("")}} {
		if !computed.Same(pair[0], pair[1]) {
			t.Errorf("not Same(%+v, %+v)", pair[0], pair[1])
		}
	}
	for _, s := range []api.Style{empty, {}, full("")} {
		if computed.Same(s, start()) || computed.Same(start(), s) {
			t.Errorf("Same(%+v)", s)
		}
	}
}

// spoil writes over a style's lists, with their spare room.
func spoil(s api.Style) {
	for i := range s.Content[:cap(s.Content)] {
		s.Content[:cap(s.Content)][i] = api.Item{Text: "spoilt"}
	}
	for i := range s.Quotes[:cap(s.Quotes)] {
		s.Quotes[:cap(s.Quotes)][i] = "spoilt"
	}
	for _, l := range [][]api.Pair{s.Reset, s.Add, s.Set} {
		for i := range l[:cap(l)] {
			l[:cap(l)][i] = api.Pair{Name: "spoilt"}
		}
	}
}

// shorter is a style whose lists have room behind them.
func shorter(s api.Style) api.Style {
	s.Content, s.Quotes, s.Reset, s.Add, s.Set = s.Content[:1], s.Quotes[:1], s.Reset[:1], s.Add[:1], s.Set[:1]
	return s
}

func TestOfLeaves(t *testing.T) { // P14.3
	for how := prop.Said; how <= prop.Unset; how++ {
		values := func() []prop.Value {
			var l []prop.Value
			for _, name := range names() {
				l = append(l, prop.Value{Name: name, Wide: how, Style: full(name)})
			}
			return l
		}
		won, parent := values(), full("p")
		for i := range won {
			won[i].Style = shorter(won[i].Style)
		}
		want := plain(of(won, 0, shorter(full("p"))))
		first, second := computed.Of(won, 0, shorter(parent)), computed.Of(won, 0, shorter(parent))
		spoil(first)
		if !same(second, want) {
			t.Errorf("%d: an answer shares with another one: %+v", how, second)
		}
		for i, v := range values() {
			s := won[i].Style
			s.Content, s.Quotes, s.Reset, s.Add, s.Set = s.Content[:2], s.Quotes[:2], s.Reset[:2], s.Add[:2], s.Set[:2]
			if won[i].Name != v.Name || won[i].Wide != how || !same(s, v.Style) {
				t.Errorf("%d: what won is changed, or shared: %+v", how, won[i])
			}
		}
		if !same(parent, full("p")) {
			t.Errorf("%d: the parent is changed, or shared: %+v", how, parent)
		}
		for i := range won {
			spoil(won[i].Style)
		}
		spoil(parent)
		if !same(second, want) {
			t.Errorf("%d: what was handed in is kept: %+v", how, second)
		}
	}
}

func TestSameLeaves(t *testing.T) { // P14.3
	a, b := full("a"), full("a")
	if !computed.Same(shorter(a), shorter(b)) || !same(a, full("a")) || !same(b, full("a")) {
		t.Errorf("Same changes %+v, %+v", a, b)
	}
}

// rich is a sheet whose styles have lists.
const rich = "a{quotes:'<' '>' '(' ')'} *,*::before,*::after,*::marker{content:'x' counter(y);counter-increment:a b;counter-reset:c d;counter-set:e f} c{content:inherit;counter-set:inherit} c::before{counter-reset:inherit}"

func TestNewMemory(t *testing.T) { // P14.3
	x, other := computed.New(sheet(t, rich), page(t)), computed.New(sheet(t, rich), page(t))
	for turn := range 3 {
		for _, i := range []int{2, 0, 1, 4} {
			for _, pseudo := range []int{1, 0, 5, 3, 2, 4} {
				want, _ := other.Style(i, pseudo)
				got, ok := x.Style(i, pseudo)
				if !ok || !same(got, want) {
					t.Fatalf("turn %d: Style(%d, %d) = %+v, want %+v", turn, i, pseudo, got, want)
				}
				spoil(got)
			}
		}
	}
	// nor do those that stand for each other
	parent, _ := x.Style(1, 0)
	kid, _ := x.Style(2, 0)
	before, _ := x.Style(2, 1)
	want := plain(kid)
	spoil(parent)
	spoil(before)
	if !same(kid, want) {
		t.Errorf("a Kid shares with its Parent, or with its pseudo-element: %+v", kid)
	}
}

func TestTreeStays(t *testing.T) { // P14.3
	p := page(t)
	s := sheet(t, rich)
	won := s.Won(p, 2, 0)
	x := computed.New(s, p)
	for pseudo := range 6 {
		for i := range 5 {
			got, _ := x.Style(i, pseudo)
			spoil(got)
		}
	}
	for i := range 5 {
		was, _ := page(t).Node(i)
		if is, _ := p.Node(i); !reflect.DeepEqual(is, was) {
			t.Errorf("node %d is changed: %+v", i, is)
		}
	}
	if !reflect.DeepEqual(s.Won(p, 2, 0), won) {
		t.Errorf("the sheet is changed: %+v", s.Won(p, 2, 0))
	}
}

func TestSeveral(t *testing.T) { // P14.2, P14.3: of one sheet and of one tree, in any order of asking
	s, p := sheet(t, "a{color:red} b{color:blue} b::before{color:green}"), page(t)
	other := tree(t, element(-1, "b"), text(0, "x"), element(0, "c"))
	x, y, z := computed.New(s, p), computed.New(s, other), computed.New(sheet(t, "a{color:gray}"), p)
	for range 2 {
		holds(t, x, 2, 1, colored("blue"))
		holds(t, y, 2, 0, colored("blue"))
		holds(t, z, 2, 0, colored("gray"))
		holds(t, x, 1, 1, colored("green"))
		holds(t, x, 0, 0, colored("red"))
		holds(t, y, 0, 1, colored("green"))
		none(t, y, 1, 0)
		none(t, y, 4, 0)
		holds(t, z, 1, 1, colored("gray"))
	}
}

func TestDeep(t *testing.T) { // P14.2: as deep as there may be
	l := []api.Raw{element(-1, "a")}
	for len(l) < api.MaxDepth {
		l = append(l, element(len(l)-1, "b"))
	}
	x := computed.New(sheet(t, "a{color:red;display:none} b{display:inherit} b::after{display:inherit;color:inherit}"), tree(t, l...))
	want := with(func(s *api.Style) { s.Color, s.Display = "red", "none" })
	holds(t, x, api.MaxDepth-1, 2, want)
	holds(t, x, api.MaxDepth-1, 0, want)
	none(t, x, api.MaxDepth, 0)
}

func TestMuch(t *testing.T) { // P14.2: as much as there may be
	var in strings.Builder
	for n := range api.MaxRules {
		in.WriteString("b~c:nth-child(2n of .c" + strconv.Itoa(n%5) + "),b~a,a~c:last-child,b~c::before{color:c" + strconv.Itoa(n) + "}")
	}
	l := []api.Raw{element(-1, "a")}
	for n := 1; n < api.MaxNodes; n++ {
		l = append(l, element(0, "c", "class", "c"+strconv.Itoa(n%5)))
	}
	l[1].Tag = "b"
	x := computed.New(sheet(t, in.String()), tree(t, l...))
	for i := range l {
		for pseudo := range 6 {
			color := "black"
			switch {
			case i < 2:
			case pseudo == api.Before:
				color = "c499"
			case (i-i%5)/5%2 == 1 && i%5 > 0 || i%10 == 0: // the second, fourth, .. of its class; b is the first of c1
				color = "c" + strconv.Itoa(495+i%5)
			}
			holds(t, x, i, pseudo, colored(color))
		}
		if t.Failed() {
			return
		}
	}
}
