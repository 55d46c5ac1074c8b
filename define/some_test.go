package define_test

import (
	"fmt"
	"math"
	"math/rand"
	"reflect"
	"regexp"
	"runtime/debug"
	"strconv"
	"strings"
	"testing"

	"fleuron/api"
	"fleuron/define"
	"fleuron/nest"
	"fleuron/rules"
	"fleuron/system"
)

// short is nodes in a form that a pattern can be held against: each but White is a word and a blank.
func short(l []api.Node) string {
	s := ""
	for _, n := range l {
		switch t := n.Token; {
		case t.Kind == api.White:
		case t.Kind == api.Comma:
			s += ", "
		case t.Kind == api.Ident:
			s += "i:" + t.Text + " "
		case t.Kind == api.String:
			s += "s:" + t.Text + " "
		case t.Kind == api.Number && t.Whole:
			s += fmt.Sprintf("n:%d ", t.Int)
		default:
			s += "other "
		}
	}
	return s
}

// The patterns of the promise, of what short makes.
var (
	bare      = regexp.MustCompile(`^i:((?i)cyclic|numeric|alphabetic|symbolic|additive|fixed) $`)
	begins    = regexp.MustCompile(`^i:(?i)fixed n:(-?\d+) $`)
	extends   = regexp.MustCompile(`^i:(?i:extends) i:(\S+) $`)
	signs     = regexp.MustCompile(`^(?:[is]:\S* )+$`)
	sign      = regexp.MustCompile(`[is]:(\S*) `)
	automatic = regexp.MustCompile(`^i:(?i)auto $`)
	twoBounds = regexp.MustCompile(`^(n:-?\d+|i:(?i:infinite)) (n:-?\d+|i:(?i:infinite)) $`)
	counted   = regexp.MustCompile(`^(?:n:(\d+) [is]:(\S*)|[is]:(\S*) n:(\d+)) $`)
	aName     = regexp.MustCompile(`^i:(\S+) $`)
	noName    = regexp.MustCompile(`^(?i)(none|initial|inherit|unset|default)$`)
	ownName   = regexp.MustCompile(`^(?i)(decimal|disc|square|circle|decimal-leading-zero|(lower|upper)-(alpha|roman)|lower-greek)$`)
)

// nameOf is a style's name as the chapter has it.
func nameOf(s string) (string, bool) {
	switch {
	case noName.MatchString(s):
		return "", false
	case ownName.MatchString(s):
		return strings.ToLower(s), true
	}
	return s, true
}

// boundOf is a bound's number.
func boundOf(s string, farthest int) int {
	if n, ok := strings.CutPrefix(s, "n:"); ok {
		i, _ := strconv.Atoi(n)
		return i
	}
	return farthest
}

// countedOf is a number and its symbol.
func countedOf(s string) (int, string, bool) {
	m := counted.FindStringSubmatch(s)
	if m == nil {
		return 0, "", false
	}
	n, _ := strconv.Atoi(m[1] + m[4])
	return n, m[2] + m[3], true
}

// saying is a style as the promises have it, and what its symbols are of.
type saying struct {
	d       system.Def
	symbols []string
	added   []string
	weights []int
}

// hear is what a descriptor changes, by the promise's words.
func (w *saying) hear(name, s string) {
	d := &w.d
	var list []string
	if signs.MatchString(s) {
		for _, m := range sign.FindAllStringSubmatch(s, -1) {
			list = append(list, m[1])
		}
	}
	switch k := len(list); {
	case name == "system":
		w.hearSystem(s)
	case name == "symbols" && k > 0:
		w.symbols = list
	case name == "negative" && (k == 1 || k == 2):
		d.Negative, d.Said = [2]string{list[0], strings.Join(list[1:], "")}, d.Said|1
	case name == "prefix" && k == 1:
		d.Prefix, d.Said = list[0], d.Said|2
	case name == "suffix" && k == 1:
		d.Suffix, d.Said = list[0], d.Said|4
	case name == "range":
		w.hearRange(s)
	case name == "pad":
		if n, text, ok := countedOf(s); ok {
			d.Pad, d.PadSign, d.Said = n, text, d.Said|16
		}
	case name == "fallback":
		if m := aName.FindStringSubmatch(s); m != nil {
			if n, ok := nameOf(m[1]); ok {
				d.Fallback, d.Said = n, d.Said|32
			}
		}
	case name == "additive-symbols":
		w.hearAdded(s)
	}
}

func (w *saying) hearSystem(s string) {
	d := &w.d
	if m := bare.FindStringSubmatch(s); m != nil {
		d.System, d.First, d.Extends = strings.ToLower(m[1]), 1, ""
	}
	if m := begins.FindStringSubmatch(s); m != nil {
		d.System, d.Extends = "fixed", ""
		d.First, _ = strconv.Atoi(m[1])
	}
	if m := extends.FindStringSubmatch(s); m != nil {
		if n, ok := nameOf(m[1]); ok {
			d.System, d.First, d.Extends = "extends", 1, n
		}
	}
}

func (w *saying) hearRange(s string) {
	if automatic.MatchString(s) {
		w.d.Auto, w.d.Range, w.d.Said = true, nil, w.d.Said|8
		return
	}
	var all [][2]int
	for _, part := range strings.Split(s, ", ") {
		m := twoBounds.FindStringSubmatch(part)
		if m == nil {
			return
		}
		two := [2]int{boundOf(m[1], math.MinInt32), boundOf(m[2], math.MaxInt32)}
		if two[0] > two[1] {
			return
		}
		all = append(all, two)
	}
	w.d.Auto, w.d.Range, w.d.Said = false, all, w.d.Said|8
}

func (w *saying) hearAdded(s string) {
	var weights []int
	var added []string
	last := math.MaxInt
	for _, part := range strings.Split(s, ", ") {
		n, text, ok := countedOf(part)
		if !ok || n >= last {
			return
		}
		weights, added, last = append(weights, n), append(added, text), n
	}
	w.weights, w.added = weights, added
}

// expected is what the promises have for a rule that has a name.
func expected(r api.Rule) (system.Def, bool) {
	w := saying{d: plain(systemOf("symbolic"))}
	for _, d := range r.Decls {
		w.hear(d.Name, short(d.Value))
	}
	switch w.d.System {
	case "additive":
		w.d.Symbols, w.d.Weights = w.added, w.weights
	case "extends":
		if len(w.symbols)+len(w.added) > 0 {
			return system.Def{}, false
		}
	default:
		w.d.Symbols = w.symbols
	}
	return w.d, system.May(w.d)
}

// holds asks Parse for what the promises have, and tells whether that is a style.
func holds(t *testing.T, in string, r api.Rule) bool {
	t.Helper()
	want, ok := expected(r)
	if ok {
		tells(t, in, r, want)
	} else {
		refuses(t, in, r, api.ErrBad)
	}
	return ok
}

// words is what values are laid together from.
var words = strings.Split("fixed|Extends|cyclic|additive|Auto|infinite|none|Disc|y|'q'|''|3|-2|+7|0|1.5|,|,|5x|%|(a)|f(b)|#h", "|")

// names is the descriptors, and one that is none.
var names = strings.Split("system|negative|prefix|suffix|range|pad|fallback|symbols|additive-symbols|odd", "|")

func TestAllShortValues(t *testing.T) { // P10.1 P10.2
	count := 0
	var try func(s string, left int)
	try = func(s string, left int) {
		l := nodes(s)
		for _, name := range names {
			for _, others := range []string{"symbols:a b", "system:additive;additive-symbols:2 a", "system:extends z"} {
				r := x(others)
				r.Decls = append(r.Decls, api.Decl{Name: name, Value: l})
				if holds(t, others+";"+name+":"+s, r) {
					count++
				}
			}
		}
		for _, w := range words {
			if left > 0 && !t.Failed() { // a fault shows in very many
				try(s+" "+w, left-1)
			}
		}
	}
	try("", 3)
	if count < 300000 {
		t.Errorf("only %d styles were told", count)
	}
}

// likely is values that descriptors may have.
var likely = map[string][]string{
	"system":           {"cyclic", "fixed 3", "Fixed", "numeric", "alphabetic", "additive", "extends y", "extends lower-Alpha", "symbolic"},
	"symbols":          {"a", "a b", "'c' d e", "q"},
	"additive-symbols": {"1 x", "7 x, y 3,0 z"},
	"negative":         {"m", "'(' ')'"},
	"prefix":           {"p"},
	"suffix":           {"')'"},
	"range":            {"auto", "1 2", "1 5,infinite 3"},
	"pad":              {"3 '0'", "y 4", "250 x"},
	"fallback":         {"y", "Square"},
	"odd":              {"y"},
}

// someSheet is one with some descriptors, of which a fifth has a word too many, and a fifth another one's value.
func someSheet(from *rand.Rand) string {
	text := ""
	for range from.Intn(9) {
		name, of := names[from.Intn(len(names))], names[from.Intn(len(names))]
		if from.Intn(5) > 0 {
			of = name
		}
		value := likely[of][from.Intn(len(likely[of]))]
		if from.Intn(5) == 0 {
			value += " " + words[from.Intn(len(words))]
		}
		text += name + ":" + value + ";"
	}
	return text
}

func TestSomeSheets(t *testing.T) { // P10.1 P10.2
	from := rand.New(rand.NewSource(10))
	seen := map[string]int{}
	for range 40000 {
		text := someSheet(from)
		r := x(text)
		if holds(t, text, r) {
			d, _ := define.Parse(r)
			seen[d.System]++
		}
		if t.Failed() {
			return
		}
	}
	for _, kind := range []string{"cyclic", "numeric", "alphabetic", "symbolic", "fixed", "additive", "extends"} {
		if seen[kind] < 100 {
			t.Errorf("only %d styles are %s", seen[kind], kind)
		}
	}
}

func TestDeeperThanCalls(t *testing.T) { // P10.1
	defer debug.SetMaxStack(debug.SetMaxStack(1 << 20))
	deep := nodes("a")
	for range 200000 {
		deep = []api.Node{{Token: api.Token{Kind: api.Open, Text: "("}, Kids: deep}}
	}
	for _, name := range names {
		tells(t, "deep "+name, named("x", decl("symbols", ident("a")), decl(name, deep...)), plain())
	}
	r := named("x", decl("symbols", ident("a")))
	r.Prelude = deep
	refuses(t, "a deep prelude", r, api.ErrBad)
	isNone(t, "a deep name", deep)
}

// spoil changes all that a list of nodes leads to, its spare room too.
func spoil(l []api.Node) {
	l = l[:cap(l)]
	for i := range l {
		spoil(l[i].Kids)
		l[i] = ident("spoilt")
	}
}

// full is a sheet whose rule says all, with some room behind.
const full = "@counter-style x { system: KIND; symbols: SYMBOLS; additive-symbols: ADDED; negative: m n; prefix: p ; suffix: s; range: 1 2, 4 5; pad: 3 f; fallback: Disc; spare: y }"

// fullRule is its rule, of one kind.
func fullRule(kind, symbols, added string) (api.Rule, string) {
	text := strings.NewReplacer("KIND", kind, "SYMBOLS", symbols, "ADDED", added).Replace(full)
	l, _ := rules.Sheet([]byte(text))
	return l[0], text
}

func TestLeavesRule(t *testing.T) { // P10.3
	for kind, all := range map[string][2]string{"fixed 3": {"a b", "2 c, 1 d"}, "additive": {"a b", "2 c, 1 d"}, "extends y": {"5", "5"}} {
		r, text := fullRule(kind, all[0], all[1])
		was, _ := fullRule(kind, all[0], all[1])
		room := r.Decls
		r.Decls = room[:len(room)-1]
		first, e := define.Parse(r)
		if e != api.OK || first.Said != 63 {
			t.Fatalf("Parse(%s) = %+v, %d", text, first, e)
		}
		second, _ := define.Parse(r)
		third, _ := define.Parse(r)
		if !reflect.DeepEqual(r.Prelude, was.Prelude) || !reflect.DeepEqual(room, was.Decls) {
			t.Errorf("Parse(%s) changed its rule: %v", text, r)
		}
		for _, l := range [][]string{first.Symbols, first.Symbols[:cap(first.Symbols)]} {
			for i := range l {
				l[i] = "spoilt"
			}
		}
		for i := range first.Weights[:cap(first.Weights)] {
			first.Weights[:cap(first.Weights)][i] = -1
		}
		for i := range first.Range[:cap(first.Range)] {
			first.Range[:cap(first.Range)][i] = [2]int{-1, -2}
		}
		if !same(second, third) || !reflect.DeepEqual(room, was.Decls) {
			t.Errorf("what Parse(%s) answers is not of its own: %+v, %v", text, second, room)
		}
		spoil(r.Prelude)
		for i := range room {
			spoil(room[i].Value)
			room[i] = api.Decl{Name: "spoilt"}
		}
		want, _ := define.Parse(was)
		if !same(second, want) {
			t.Errorf("Parse(%s) keeps its rule: %+v", text, second)
		}
	}
}

func TestLeavesNodes(t *testing.T) { // P10.3
	for _, text := range []string{"  Disc  ", "a(b) c ", " None ", "x"} {
		room := nodes(text + " (spare)")
		given := room[:len(room)-1]
		name, ok := define.Name(given)
		if !nest.Same(room, nodes(text+" (spare)")) {
			t.Errorf("Name(%q) changed its nodes: %v", text, room)
		}
		n := room[0]
		symbol, is := define.Symbol(n)
		spoil(room)
		again, still := define.Name(nodes(text))
		if again != name || still != ok {
			t.Errorf("Name(%q) = %q, %t, then %q, %t", text, name, ok, again, still)
		}
		other, too := define.Symbol(nodes(text)[0])
		if other != symbol || too != is {
			t.Errorf("Symbol(%q) = %q, %t, then %q, %t", text, symbol, is, other, too)
		}
	}
}
