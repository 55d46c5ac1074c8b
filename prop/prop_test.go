package prop_test

import (
	"fmt"
	"math"
	"reflect"
	"strings"
	"testing"

	"fleuron/api"
	"fleuron/nest"
	"fleuron/points"
	"fleuron/prop"
	"fleuron/rules"
	"fleuron/token"
)

// nodes is a text's.
func nodes(s string) []api.Node { return nest.All(token.All(points.Read([]byte(s)))) }

// leaf is a node that is a token alone.
func leaf(t api.Token) api.Node { return api.Node{Token: t} }

func ident(s string) api.Node  { return leaf(api.Token{Kind: api.Ident, Text: s}) }
func quoted(s string) api.Node { return leaf(api.Token{Kind: api.String, Text: s}) }
func whole(n int) api.Node     { return leaf(api.Token{Kind: api.Number, Int: n, Whole: true}) }
func white() api.Node          { return leaf(api.Token{Kind: api.White}) }
func comma() api.Node          { return leaf(api.Token{Kind: api.Comma}) }
func function(s string, kids ...api.Node) api.Node {
	return api.Node{Token: api.Token{Kind: api.Function, Text: s}, Kids: kids}
}

// decl is a declaration of nodes that are handed in as they are.
func decl(name string, l ...api.Node) api.Decl { return api.Decl{Name: name, Value: l} }

// say is a declaration of a text's nodes.
func say(name, value string) api.Decl { return decl(name, nodes(value)...) }

// allNames is all properties, as the chapter has them.
const allNames = "color content counter-increment counter-reset counter-set display list-style-type quotes"

// names is the same, one by one.
func names() []string { return strings.Fields(allNames) }

// plain is a style in which an empty list is nil.
func plain(s api.Style) api.Style {
	s.Content = append([]api.Item(nil), s.Content...)
	s.Quotes = append([]string(nil), s.Quotes...)
	for _, l := range []*[]api.Pair{&s.Reset, &s.Add, &s.Set} {
		*l = append([]api.Pair(nil), *l...)
	}
	return s
}

// same compares two; nil and an empty list are the same.
func same(a, b api.Style) bool { return reflect.DeepEqual(plain(a), plain(b)) }

// tells asks Parse for a value.
func tells(t *testing.T, in string, d api.Decl, want prop.Value) {
	t.Helper()
	got, e := prop.Parse(d)
	if e != api.OK || got.Name != want.Name || got.Wide != want.Wide || !same(got.Style, want.Style) {
		t.Errorf("Parse(%s: %s):\n got %+v, %d\nwant %+v", d.Name, in, got, e, want)
	}
}

// says asks Parse for a style of a text.
func says(t *testing.T, name, in string, want api.Style) {
	t.Helper()
	tells(t, in, say(name, in), prop.Value{Name: name, Style: want})
}

// refuses asks Parse for its error.
func refuses(t *testing.T, in string, d api.Decl) {
	t.Helper()
	if got, e := prop.Parse(d); !reflect.DeepEqual(got, prop.Value{}) || e != api.ErrBad {
		t.Errorf("Parse(%s: %s) = %+v, %d, want ErrBad", d.Name, in, got, e)
	}
}

// refusesAll asks Parse for its error, of texts that are parted by |.
func refusesAll(t *testing.T, name, all string) {
	t.Helper()
	for _, in := range strings.Split(all, "|") {
		refuses(t, in, say(name, in))
	}
}

// letters is a word in letters of several kinds, and with escapes.
func letters(s string) []string {
	mixed := ""
	for i := range s {
		if i%2 == 0 {
			mixed += strings.ToUpper(s[i : i+1])
		} else {
			mixed += s[i : i+1]
		}
	}
	return []string{s, strings.ToUpper(s), strings.ToUpper(s[:1]) + s[1:], mixed, fmt.Sprintf("\\%x %s", s[0], s[1:]), fmt.Sprintf("\\%06x%s", s[0]-'a'+'A', s[1:])}
}

// around is a text with White and comments about it.
func around(s string) []string {
	return []string{s, " " + s, s + "\n", "/**/ /**/\t" + s + " /**/ "}
}

// oddWords is words that no Ident in small letters is, though they look so.
var oddWords = strings.Split("inher\u0131t|\u0130nherit|un\u017fet|inherits|-inherit|init|'inherit'|inherit()|#inherit|@inherit|(inherit)|inherit inherit|inherit,|,inherit|inherit unset|inherit!|1inherit", "|")

func TestNames(t *testing.T) { // P12.1 P12.3
	first := prop.Names()
	if got := strings.Join(first, " "); got != allNames {
		t.Errorf("Names() = %s", got)
	}
	for i := range first[:cap(first)] {
		first[:cap(first)][i] = "spoilt"
	}
	if got := strings.Join(prop.Names(), " "); got != allNames {
		t.Errorf("Names() is not of its own: %s", got)
	}
}

func TestInherits(t *testing.T) { // P12.1
	inherit := map[string]bool{"color": true, "list-style-type": true, "quotes": true}
	for _, name := range names() {
		if got := prop.Inherits(name); got != inherit[name] {
			t.Errorf("Inherits(%s) = %t", name, got)
		}
	}
	for _, name := range []string{"", "Color", "COLOR", " color", "color ", "colors", "colo", "quote", "list-style", "list-style-types", "--color", "font-size", "\xff"} {
		if prop.Inherits(name) {
			t.Errorf("Inherits(%q)", name)
		}
	}
}

func TestStart(t *testing.T) { // P12.1 P12.3
	want := api.Style{Display: "inline", ListType: "disc", Color: "black", Normal: true, Auto: true}
	for range 2 {
		got := prop.Start()
		if !same(got, want) {
			t.Errorf("Start() = %+v", got)
		}
		got.Quotes = append(got.Quotes, "a")
		got.Reset = append(got.Reset, api.Pair{Name: "a"})
	}
}

// full is a style of which all says something of its own: of s.
func full(s string) api.Style {
	return api.Style{
		Display: "d" + s, ListType: "l" + s, Color: "c" + s,
		Content: []api.Item{{Kind: 1, Text: "i" + s, Sep: "s" + s, Style: "y" + s}, {Kind: 2}},
		Quotes:  []string{"q" + s, "r" + s},
		Reset:   []api.Pair{{Name: "t" + s, N: 1, Rev: true, Auto: true}, {N: -1}},
		Add:     []api.Pair{{Name: "a" + s, N: 2}, {Rev: true}},
		Set:     []api.Pair{{Name: "e" + s, N: 3}, {Auto: true}},
	}
}

// flags is a style with Normal, None and Auto.
func flags(s api.Style, normal, none, auto bool) api.Style {
	s.Normal, s.None, s.Auto = normal, none, auto
	return s
}

// taken is what Take should tell.
func taken(s, from api.Style, name string) api.Style {
	switch name {
	case "color":
		s.Color = from.Color
	case "content":
		s.Content, s.Normal, s.None = from.Content, from.Normal, from.None
	case "counter-increment":
		s.Add = from.Add
	case "counter-reset":
		s.Reset = from.Reset
	case "counter-set":
		s.Set = from.Set
	case "display":
		s.Display = from.Display
	case "list-style-type":
		s.ListType = from.ListType
	case "quotes":
		s.Quotes, s.Auto = from.Quotes, from.Auto
	}
	return s
}

func TestTake(t *testing.T) { // P12.1
	all := []api.Style{{}, prop.Start(), full("x"), flags(full("y"), true, false, false), flags(full("z"), false, true, false), flags(full(""), false, false, true), flags(api.Style{}, true, true, true)}
	for i, s := range all {
		for j, from := range all {
			for _, name := range append(names(), "", "x", "Color", "QUOTES", " display", "counter", "list-style") {
				if got := prop.Take(s, from, name); !same(got, taken(s, from, name)) {
					t.Errorf("Take(%d, %d, %q) = %+v", i, j, name, got)
				}
			}
		}
	}
}

// spoilStyle changes all that a style leads to, its spare room too.
func spoilStyle(s api.Style) {
	for i := range s.Content[:cap(s.Content)] {
		s.Content[:cap(s.Content)][i] = api.Item{Kind: -1}
	}
	for i := range s.Quotes[:cap(s.Quotes)] {
		s.Quotes[:cap(s.Quotes)][i] = "spoilt"
	}
	for _, l := range [][]api.Pair{s.Reset, s.Add, s.Set} {
		for i := range l[:cap(l)] {
			l[:cap(l)][i] = api.Pair{Name: "spoilt"}
		}
	}
}

// shorter is a style whose lists have room behind them.
func shorter(s api.Style) api.Style {
	s.Content, s.Quotes, s.Reset, s.Add, s.Set = s.Content[:1], s.Quotes[:1], s.Reset[:1], s.Add[:1], s.Set[:1]
	return s
}

func TestTakeLeaves(t *testing.T) { // P12.3
	for _, name := range append(names(), "x") {
		a, b := full("a"), full("b")
		want := plain(taken(shorter(full("a")), shorter(full("b")), name))
		first := prop.Take(shorter(a), shorter(b), name)
		second := prop.Take(shorter(a), shorter(b), name)
		if !same(a, full("a")) || !same(b, full("b")) {
			t.Errorf("Take(%s) changed its styles: %+v, %+v", name, a, b)
		}
		spoilStyle(first)
		if !same(a, full("a")) || !same(b, full("b")) || !same(second, want) {
			t.Errorf("what Take(%s) answers is not of its own: %+v, %+v, %+v", name, a, b, second)
		}
		spoilStyle(a)
		spoilStyle(b)
		if !same(second, want) {
			t.Errorf("Take(%s) keeps its styles: %+v", name, second)
		}
		one := full("c")
		one.Add, one.Set = one.Reset, one.Reset
		got := prop.Take(one, one, name)
		got.Reset[0].Name, got.Set[0].Name = "r", "s"
		if got.Reset[0].Name != "r" || got.Add[0].Name != "tc" || got.Set[0].Name != "s" || one.Reset[0].Name != "tc" {
			t.Errorf("lists of Take(%s) share room: %+v", name, got)
		}
	}
}

func TestNoProperty(t *testing.T) { // P12.2
	for _, name := range []string{"", "nosuch", "Color", "COLOR", " color", "color ", "colors", "col", "--color", "counter", "counter-", "counter-reset-", "list-style", "list", "content-", "font-size", "\xff", "counter_set"} {
		for _, in := range []string{"red", "none", "inherit", "initial", "unset", "", "a 1", "'a' 'b'"} {
			refuses(t, in, say(name, in))
		}
	}
	refuses(t, "nothing", api.Decl{})
}

func TestWide(t *testing.T) { // P12.2
	for _, name := range names() {
		for word, how := range map[string]int{"inherit": 1, "initial": 2, "unset": 3} {
			for _, in := range letters(word) {
				for _, in := range around(in) {
					tells(t, in, say(name, in), prop.Value{Name: name, Wide: how})
				}
			}
			refuses(t, word+" twice", say(name, word+" "+word))
			refuses(t, word+" and none", say(name, word+" none"))
			refuses(t, "none and "+word, say(name, "none "+word))
			refuses(t, word+" and a text", say(name, word+" 'a'"))
			refuses(t, "a text and "+word, say(name, "'a' "+word))
			refuses(t, word+" and a number", say(name, word+" 1"))
			refuses(t, "a and "+word, say(name, "a "+word))
			refuses(t, word+" and a", say(name, word+" a"))
		}
		for _, in := range oddWords {
			if v, _ := prop.Parse(say(name, in)); v.Wide != prop.Said {
				t.Errorf("Parse(%s: %s) = %+v", name, in, v)
			}
		}
	}
	if prop.Said != 0 || prop.Inherit != 1 || prop.Initial != 2 || prop.Unset != 3 {
		t.Error("how it is said")
	}
}

func TestNothingSaid(t *testing.T) { // P12.2
	for _, name := range names() {
		refuses(t, "nothing", decl(name))
		refuses(t, "White", decl(name, white()))
		refuses(t, "White twice", decl(name, white(), white()))
		refuses(t, "a comment", say(name, "/**/"))
	}
}

func TestDisplay(t *testing.T) { // P12.2
	for _, word := range []string{"none", "block", "inline", "list-item"} {
		for _, in := range letters(word) {
			for _, in := range around(in) {
				says(t, "display", in, api.Style{Display: word})
			}
		}
	}
	refusesAll(t, "display", "flex|inline-block|normal|auto|list|item|block block|block inline|block,|,block|'block'|block()|#block|5|(block)|b\u0131ock|l\u0131st-item|bloc\u212a|run-in|block 1|none none|contents|list -item|list- item|default|revert")
}

func TestColor(t *testing.T) { // P12.2
	for in, want := range map[string]string{"red": "red", "ReD": "red", " BLUE ": "blue", "\\52 ed": "red", "none": "none", "None": "none", "auto": "auto", "normal": "normal", "default": "default", "transparent": "transparent", "--X": "--x", "nosuch": "nosuch", "\u00c4B": "\u00c4b", "in\\68 erits": "inherits", "revert": "revert", "\\31 2": "12", "a\\ B": "a b"} {
		says(t, "color", in, api.Style{Color: want})
	}
	refusesAll(t, "color", "red blue|#f00|#red|'red'|rgb(1,2,3)|5|red,|,red|red 1|f()|(red)|red!|url(red)|@red|50%|1red|.|red/blue|inherit x|red inherit")
}

func TestListType(t *testing.T) { // P12.2
	for _, own := range strings.Fields("decimal decimal-leading-zero lower-alpha upper-alpha lower-roman upper-roman lower-greek disc circle square none") {
		for _, in := range letters(own) {
			for _, in := range around(in) {
				says(t, "list-style-type", in, api.Style{ListType: own})
			}
		}
	}
	for in, want := range map[string]string{"Xy": "Xy", "x": "x", " X ": "X", "auto": "auto", "Normal": "Normal", "lower-latin": "lower-latin", "\u00c4": "\u00c4", "--a": "--a", "Discs": "Discs", "'a b'": "\"a b", "\"\"": "\"", "''": "\"", "'None'": "\"None", "'inherit'": "\"inherit", "'\"'": "\"\"", " '\\2022' ": "\"\u2022", "'a\\\nb'": "\"ab", "\\\"q": "\"q"} {
		says(t, "list-style-type", in, api.Style{ListType: want})
	}
	refusesAll(t, "list-style-type", "a b|default|Default|DEFAULT|'a' 'b'|'a' b|none none|none disc|5|#disc|f()|disc()|symbols('a')|disc,|,disc|(disc)|url(a)|disc 1|1disc|'a\n|inside disc")
}

// list is n texts, one by one, and as a value.
func list(n int) (value string, all []string) {
	for i := range n {
		all = append(all, fmt.Sprint(i))
		value += fmt.Sprintf(" '%d'", i)
	}
	return value, all
}

func TestQuotes(t *testing.T) { // P12.2
	for _, in := range letters("none") {
		says(t, "quotes", in, api.Style{})
	}
	for _, in := range letters("auto") {
		says(t, "quotes", in, api.Style{Auto: true})
	}
	for in, want := range map[string][]string{"'a' 'b'": {"a", "b"}, "'a'\"b\"": {"a", "b"}, " 'A' /**/ '' 'none' 'auto' ": {"A", "", "none", "auto"}, "'\\201c' '\\201d'": {"\u201c", "\u201d"}, "'' ''": {"", ""}} {
		says(t, "quotes", in, api.Style{Quotes: want})
	}
	for n := range 70 {
		value, all := list(n)
		if n == 0 || n%2 == 1 || n > 32 {
			refuses(t, value, say("quotes", value))
		} else {
			says(t, "quotes", value, api.Style{Quotes: all})
		}
	}
	refusesAll(t, "quotes", "'a'|a|a b|'a' b|a 'b'|'a','b'|'a' 'b',|none none|auto auto|none auto|none 'a'|auto 'a'|'a' auto|'a' 'b' none|'a' 'b' auto|normal|match-parent|5|5 5|'a' 5|f()|f() f()|#a #b|('a' 'b')|url(a) url(b)|'a' 'b' 'c'|'a' 'b\n")
}

// counting is the three properties of counters.
var counting = []string{"counter-increment", "counter-reset", "counter-set"}

// counters is a style that says them of one of the three.
func counters(name string, l ...api.Pair) api.Style {
	switch name {
	case "counter-increment":
		return api.Style{Add: l}
	case "counter-reset":
		return api.Style{Reset: l}
	}
	return api.Style{Set: l}
}

// unsaid is the number of a counter without one.
func unsaid(name string) int {
	if name == "counter-increment" {
		return 1
	}
	return 0
}

func TestCounters(t *testing.T) { // P12.2
	for _, name := range counting {
		u := unsaid(name)
		for _, in := range letters("none") {
			for _, in := range around(in) {
				says(t, name, in, counters(name))
			}
		}
		for in, want := range map[string][]api.Pair{
			"a":                         {{Name: "a", N: u}},
			"a b 2":                     {{Name: "a", N: u}, {Name: "b", N: 2}},
			" A -3/**/b+4 C ":           {{Name: "A", N: -3}, {Name: "b", N: 4}, {Name: "C", N: u}},
			"a 0 a 1 a":                 {{Name: "a", N: 0}, {Name: "a", N: 1}, {Name: "a", N: u}},
			"a -0":                      {{Name: "a"}},
			"a 99999999999":             {{Name: "a", N: math.MaxInt32}},
			"a -99999999999":            {{Name: "a", N: math.MinInt32}},
			"default":                   {{Name: "default", N: u}},
			"auto 5 normal":             {{Name: "auto", N: 5}, {Name: "normal", N: u}},
			"reversed":                  {{Name: "reversed", N: u}},
			"Reversed 7":                {{Name: "Reversed", N: 7}},
			"list-item":                 {{Name: "list-item", N: u}},
			"\\6e one-":                 {{Name: "none-", N: u}},
			"--X 1":                     {{Name: "--X", N: 1}},
			"\u00c4 1 \u00e4 2":         {{Name: "\u00c4", N: 1}, {Name: "\u00e4", N: 2}},
			"decimal disc":              {{Name: "decimal", N: u}, {Name: "disc", N: u}},
			"\u0131nherit un\u017fet 3": {{Name: "\u0131nherit", N: u}, {Name: "un\u017fet", N: 3}},
		} {
			says(t, name, in, counters(name, want...))
		}
		refusesAll(t, name, "5|5 a|a 1 2|a 1 1 b|a 1.5|a 1.0|a 1e0|a 1%|a 1x|a - 1|a,b|a,|,a|'a'|a 'b'|#a|f(a)|f()|(a)|a (b)|[a]|a!|a b c 1.5|url(a)|none none|none 1|reversed(|a none|none a|a 1 none|a NONE 1|inherit 5|a inherit|initial 1 a|a initial|Unset 1|a uNset|a 1 unset|a 1 inherit 1|@a|a;b|a:1|+")
	}
}

func TestReversed(t *testing.T) { // P12.2
	for in, want := range map[string][]api.Pair{
		"reversed(a)":                     {{Name: "a", Rev: true, Auto: true}},
		"Reversed( a ) 5 b":               {{Name: "a", N: 5, Rev: true}, {Name: "b"}},
		"b REVERSED(/**/ A /**/) c 2":     {{Name: "b"}, {Name: "A", Rev: true, Auto: true}, {Name: "c", N: 2}},
		"reversed(a)0 reversed(b)-3":      {{Name: "a", Rev: true}, {Name: "b", N: -3, Rev: true}},
		"reversed(a)reversed(a)":          {{Name: "a", Rev: true, Auto: true}, {Name: "a", Rev: true, Auto: true}},
		"\\72 eversed(a) +1":              {{Name: "a", N: 1, Rev: true}},
		"reversed(reversed)":              {{Name: "reversed", Rev: true, Auto: true}},
		"reversed(default":                {{Name: "default", Rev: true, Auto: true}},
		"reversed(a) 99999999999":         {{Name: "a", N: math.MaxInt32, Rev: true}},
		"reversed reversed(a) reversed 1": {{Name: "reversed"}, {Name: "a", Rev: true, Auto: true}, {Name: "reversed", N: 1}},
	} {
		says(t, "counter-reset", in, counters("counter-reset", want...))
		refuses(t, in, say("counter-increment", in))
		refuses(t, in, say("counter-set", in))
	}
	refusesAll(t, "counter-reset", "reversed()|reversed( )|reversed(a b)|reversed(a 1)|reversed(a,b)|reversed(a,)|reversed(,)|reversed('a')|reversed(5)|reversed(none)|reversed(None)|reversed(inherit)|reversed(INITIAL)|reversed(unset)|reversed(reversed(a))|reversed((a))|reversed(#a)|other(a)|reverse(a)|counter(a)|reversed(a) 1.5|reversed(a) 1 2|reversed(a) none|none reversed(a)|reversed(a),b|reversed (a)|reversed(a) inherit|rever\u017fed(a)|-reversed(a)")
}

func TestManyCounters(t *testing.T) { // P12.2
	for _, name := range counting {
		for _, one := range []string{"a ", "a 7 ", "a 1 ", "reversed(a) ", "reversed(a) 1 "} {
			if strings.HasPrefix(one, "r") && name != "counter-reset" {
				continue
			}
			for n := range 70 {
				d := say(name, strings.Repeat(one, n))
				v, e := prop.Parse(d)
				s := v.Style
				if n == 0 || n > 32 {
					refuses(t, one, d)
				} else if e != api.OK || len(s.Add)+len(s.Reset)+len(s.Set) != n {
					t.Errorf("Parse(%s: %s%d times) = %+v, %d", name, one, n, v, e)
				}
			}
		}
	}
}

// content is a style that says it.
func content(l ...api.Item) api.Style { return api.Style{Content: l} }

func TestContentWords(t *testing.T) { // P12.2
	for _, in := range letters("normal") {
		for _, in := range around(in) {
			says(t, "content", in, api.Style{Normal: true})
		}
	}
	for _, in := range letters("none") {
		for _, in := range around(in) {
			says(t, "content", in, api.Style{None: true})
		}
	}
	for word, kind := range map[string]int{"open-quote": 5, "close-quote": 6, "no-open-quote": 7, "no-close-quote": 8} {
		for _, in := range letters(word) {
			for _, in := range around(in) {
				says(t, "content", in, content(api.Item{Kind: kind}))
			}
		}
	}
	for in, want := range map[string][]string{"'a'": {"a"}, "'a' \"B c\"": {"a", "B c"}, "''": {""}, "'a''a'/**/''": {"a", "a", ""}, "'normal' 'none'": {"normal", "none"}, "'inherit'": {"inherit"}, "'\\\n\\A '": {"\n"}} {
		var l []api.Item
		for _, s := range want {
			l = append(l, api.Item{Kind: api.Words, Text: s})
		}
		says(t, "content", in, content(l...))
	}
	refusesAll(t, "content", "normal normal|normal none|none 'a'|'a' none|'a' normal|normal 'a'|'a' inherit|initial 'a'|'a','b'|'a',|,'a'|a|'a' a|5|'a' 5|#a|url(a)|url('a')|open-quote()|quote|open|auto|open-quote,close-quote|('a')|['a']|'a' / 'b'|'a'!|@a|+|'a\n|'a' 'b\n|f()|f(a)|symbols('a')|contents|no-quote|no-open-quotes|open_quote")
}

func TestAttr(t *testing.T) { // P12.2
	for in, want := range map[string]string{"attr(href)": "href", "attr( HRef )": "href", "ATTR(a": "a", "\\61ttr(/**/A/**/)": "a", "attr(none)": "none", "attr(Inherit)": "inherit", "attr(unset)": "unset", "attr(data-X)": "data-x", "attr(\u00c4B)": "\u00c4b", "attr(\\31)": "1"} {
		says(t, "content", in, content(api.Item{Kind: api.AttrOf, Text: want}))
	}
	refusesAll(t, "content", "attr()|attr( )|attr(a b)|attr(a,b)|attr(a, 'b')|attr(a,)|attr('a')|attr(5)|attr(#a)|attr(f(a))|attr((a))|attr(a:b)|attr(*)|attr (a)|attr|-attr(a)|attrs(a)|attr(a string)|a\u0242ttr(a)")
}

func TestCounterItems(t *testing.T) { // P12.2
	styles := map[string]string{"": "decimal", ",decimal": "decimal", ", Decimal ": "decimal", ",Lower-ROMAN": "lower-roman", ",none": "none", " , NONE": "none", ",Xy": "Xy", ", auto": "auto", ",/**/ --x": "--x", ", DISC": "disc", ",counter": "counter"}
	for in, style := range styles {
		for name, text := range map[string]string{"a": "a", " A ": "A", "default": "default", "counter": "counter", "List-Item": "List-Item", "/**/\\6e one-": "none-", "auto ": "auto"} {
			for _, f := range []string{"counter(", "Counter(", "COUNTER(", "\\63 ounter("} {
				says(t, "content", f+name+in+")", content(api.Item{Kind: api.CounterOf, Text: text, Style: style}))
			}
			for sep, told := range map[string]string{",'.'": ".", ",''": "", " , \"a B\" ": "a B", ",/**/'none'": "none"} {
				for _, f := range []string{"counters(", "Counters(", "COUNTERS(", "\\63 ounters("} {
					says(t, "content", f+name+sep+in+")", content(api.Item{Kind: api.CountersOf, Text: text, Sep: told, Style: style}))
				}
			}
		}
	}
	for _, name := range []string{"none", "None", "inherit", "INITIAL", "unset", "'a'", "5", "f()", "#a", "", "a b", "(a)", ",", "a 1", "reversed(a)"} {
		for _, in := range []string{"", ",decimal", ",'.'", ",'.',decimal"} {
			for _, f := range []string{"counter(", "counters("} {
				refuses(t, f+name+in, say("content", f+name+in+")"))
			}
		}
	}
	for _, style := range []string{",", ", ", ",initial", ",Inherit", ",UNSET", ",default", ",'b'", ",5", ",b c", ",b,c", ",b,", ",,b", ",f()", ",#b", ",(b)", " b", " 'b'", ",none none", ",none b", ",symbols('a')"} {
		refuses(t, "counter and "+style, say("content", "counter(a"+style+")"))
		refuses(t, "counters and "+style, say("content", "counters(a,'.'"+style+")"))
	}
	refusesAll(t, "content", "counter|counters|counter()|counters()|counters(a)|counters(a,)|counters(a '.')|counters('.')|counters('.',a)|counters(,'.')|counters(a,b)|counters(a,b,'.')|counters(a,5)|counters(a,'.' 'b')|counters(a,'.' b)|counters(a,,'.')|counters(a b,'.')|counters(a,none)|counter(a,'.')|counter(a,'.',b)|counter (a)|-counter(a)|counter-(a)|counter(counter(a))|counters(a,'\n)")
}

func TestManyItems(t *testing.T) { // P12.2
	all := "'b' open-quote Close-Quote no-open-quote NO-close-quote attr(X) counter(A) counters(c, '-', Disc)"
	want := []api.Item{
		{Kind: api.Words, Text: "b"}, {Kind: api.OpenQuote}, {Kind: api.CloseQuote}, {Kind: api.NoOpen}, {Kind: api.NoClose},
		{Kind: api.AttrOf, Text: "x"}, {Kind: api.CounterOf, Text: "A", Style: "decimal"}, {Kind: api.CountersOf, Text: "c", Sep: "-", Style: "disc"},
	}
	says(t, "content", all, content(want...))
	four := strings.Repeat(all+" ", 4)
	says(t, "content", four, content(append(append(append(want, want...), want...), want...)...))
	refusesAll(t, "content", four+"''|"+four+"open-quote|"+four+"none|"+four+"a")
	for _, one := range []string{"'a' ", "open-quote ", "attr(a) ", "counter(a) ", "counters(a,'')"} {
		for n := range 70 {
			d := say("content", strings.Repeat(one, n))
			v, e := prop.Parse(d)
			if n == 0 || n > 32 {
				refuses(t, one, d)
			} else if e != api.OK || len(v.Style.Content) != n {
				t.Errorf("Parse(content: %s%d times) = %+v, %d", one, n, v, e)
			}
		}
	}
}

// values is some that each property takes.
var values = map[string][]string{
	"color":             {"Red", "none"},
	"content":           {"normal", "none", "'a' open-quote attr(B) counter(c, Disc) counters(d, 'e', none)"},
	"counter-increment": {"none", "a B 2"},
	"counter-reset":     {"none", "a reversed(b) 3 reversed(c)"},
	"counter-set":       {"none", "a B 2"},
	"display":           {"none", "Block", "INLINE", "list-item"},
	"list-style-type":   {"none", "'a'", "Disc", "Xy"},
	"quotes":            {"none", "auto", "'a' 'b'"},
}

func TestOfSheets(t *testing.T) { // P12.2
	for name, all := range values {
		for _, value := range append(all, "inherit", "unset") {
			want, e := prop.Parse(say(name, value))
			if e != api.OK || want.Name != name {
				t.Errorf("Parse(%s: %s) = %+v, %d", name, value, want, e)
			}
			for _, in := range []string{name + ":" + value, strings.ToUpper(name) + " : " + value + " ;", name + ":" + value + "!important"} {
				l := rules.Decls(nodes(in))
				if len(l) != 1 {
					t.Fatalf("%s is no declaration", in)
				}
				tells(t, value, l[0], want)
			}
		}
	}
}

func TestNothingElse(t *testing.T) { // P12.2
	for name, all := range values {
		for _, value := range all {
			v, _ := prop.Parse(say(name, value))
			if empty := prop.Take(v.Style, api.Style{}, name); !same(empty, api.Style{}) {
				t.Errorf("Parse(%s: %s) says more: %+v", name, value, v)
			}
		}
	}
}

func TestOddNodes(t *testing.T) { // P12.2
	for kind := -1; kind <= 22; kind++ {
		odd := leaf(api.Token{Kind: kind, Text: "none", Int: 3, Whole: true, Sign: true, ID: true})
		odd.Kids = nodes("a")
		is := func(name string, want bool, l ...api.Node) {
			t.Helper()
			if _, e := prop.Parse(decl(name, l...)); (e == api.OK) != want {
				t.Errorf("Parse(%s: kind %d, %d nodes) = %d", name, kind, len(l), e)
			}
		}
		id, text, no, number := kind == api.Ident, kind == api.String, kind == api.White, kind == api.Number
		for _, name := range names() {
			is(name, id || text && (name == "content" || name == "list-style-type"), odd)
		}
		is("color", no, odd, ident("a"), odd)
		is("display", no, odd, ident("block"), odd)
		is("list-style-type", no, odd, ident("a"), odd)
		is("quotes", text, odd, odd)
		is("counter-set", no || number, ident("a"), odd)
		is("counter-reset", no || number, function("reversed", ident("a")), odd, ident("b"))
		is("content", no || text, quoted("a"), odd)
		is("content", id, function("attr", odd))
		is("content", no, function("attr", odd, ident("a"), odd))
		is("content", no, function("counter", odd, ident("a"), odd))
		is("content", id, function("counter", ident("a"), comma(), odd))
		is("content", text, function("counters", ident("a"), comma(), odd))
		is("content", kind == api.Comma, function("counter", ident("a"), odd, ident("b")))
		is("content", kind == api.Comma, function("counters", ident("a"), odd, quoted("b")))
	}
}
