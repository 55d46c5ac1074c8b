package prop_test

import (
	"fmt"
	"math/rand"
	"reflect"
	"regexp"
	"runtime/debug"
	"strconv"
	"strings"
	"testing"

	"fleuron/api"
	"fleuron/nest"
	"fleuron/prop"
)

// short is nodes in a form that a pattern can be held against: each but White is a word and a blank.
func short(l []api.Node) string {
	s := ""
	for _, n := range l {
		switch t := n.Token; {
		case t.Kind == api.White:
		case t.Kind == api.Comma:
			s += ", "
		case t.Kind == api.Ident:
			s += "i:" + t.Text + " "
		case t.Kind == api.String:
			s += "s:" + t.Text + " "
		case t.Kind == api.Number && t.Whole:
			s += fmt.Sprintf("n:%d ", t.Int)
		case t.Kind == api.Function:
			s += "f:" + t.Text + "( " + short(n.Kids) + ") "
		default:
			s += "other "
		}
	}
	return s
}

// The patterns of the promise, of what short makes.
var (
	wideWord  = regexp.MustCompile(`^i:((?i)inherit|initial|unset) $`)
	noneWord  = regexp.MustCompile(`^i:(?i)none $`)
	autoWord  = regexp.MustCompile(`^i:(?i)auto $`)
	asUsual   = regexp.MustCompile(`^i:(?i)normal $`)
	oneWord   = regexp.MustCompile(`^i:(\S+) $`)
	oneText   = regexp.MustCompile(`^s:(\S*) $`)
	displays  = regexp.MustCompile(`^i:((?i)none|block|inline|list-item) $`)
	texts     = regexp.MustCompile(`^(s:\S* s:\S* ){1,16}$`)
	text      = regexp.MustCompile(`s:(\S*) `)
	plainOnes = regexp.MustCompile(`^(i:\S+ (n:-?\d+ )?){1,32}$`)
	withRev   = regexp.MustCompile(`^((i:\S+|f:(?i:reversed)\( i:\S+ \)) (n:-?\d+ )?){1,32}$`)
	counter   = regexp.MustCompile(`(?:i:(\S+)|f:\S+\( i:(\S+) \)) (?:n:(-?\d+) )?`)
	noCounter = regexp.MustCompile(`^(?i)(none|inherit|initial|unset)$`)
	noStyle   = regexp.MustCompile(`^(?i)(initial|inherit|unset|default)$`)
	ownStyle  = regexp.MustCompile(`^(?i)(none|decimal|disc|square|circle|decimal-leading-zero|(lower|upper)-(alpha|roman)|lower-greek)$`)
	oneItem   = `s:\S* |i:(?i:(?:no-)?(?:open|close)-quote) |f:(?i:attr)\( i:\S+ \) |f:(?i:counter)\( i:\S+ (?:, i:\S+ )?\) |f:(?i:counters)\( i:\S+ , s:\S* (?:, i:\S+ )?\) `
	items     = regexp.MustCompile(`^(?:` + oneItem + `){1,32}$`)
	item      = regexp.MustCompile(oneItem)
	within    = regexp.MustCompile(`^f:([a-z]+)\( i:(\S+) (?:, s:(\S*) )?(?:, i:(\S+) )?\) $`)
)

// styleOf is a style's name, or none, as the chapters have it.
func styleOf(s string) (string, bool) {
	switch {
	case s == "":
		return "decimal", true
	case noStyle.MatchString(s):
		return "", false
	case ownStyle.MatchString(s):
		return strings.ToLower(s), true
	}
	return s, true
}

// pairsOf is the counters of a form that has them.
func pairsOf(s string, unsaid int) ([]api.Pair, bool) {
	var all []api.Pair
	for _, m := range counter.FindAllStringSubmatch(s, -1) {
		p := api.Pair{Name: m[1] + m[2], Rev: m[1] == ""}
		if noCounter.MatchString(p.Name) {
			return nil, false
		}
		switch {
		case m[3] != "":
			p.N, _ = strconv.Atoi(m[3])
		case p.Rev:
			p.Auto = true
		default:
			p.N = unsaid
		}
		all = append(all, p)
	}
	return all, true
}

// itemOf is one of a form that has it.
func itemOf(s string) (api.Item, bool) {
	if m := oneText.FindStringSubmatch(s); m != nil {
		return api.Item{Kind: 1, Text: m[1]}, true
	}
	if strings.HasPrefix(s, "i:") {
		return api.Item{Kind: map[string]int{"open-quote": 5, "close-quote": 6, "no-open-quote": 7, "no-close-quote": 8}[strings.ToLower(s[2:len(s)-1])]}, true
	}
	name, rest, _ := strings.Cut(s, "(")
	m := within.FindStringSubmatch(strings.ToLower(name) + "(" + rest)
	if m[1] == "attr" {
		return api.Item{Kind: 2, Text: strings.ToLower(m[2])}, true
	}
	style, ok := styleOf(m[4])
	x := api.Item{Kind: map[string]int{"counter": 3, "counters": 4}[m[1]], Text: m[2], Sep: m[3], Style: style}
	return x, ok && !noCounter.MatchString(m[2])
}

// contentOf is a content's style, of its form.
func contentOf(s string) (api.Style, bool) {
	switch {
	case asUsual.MatchString(s):
		return api.Style{Normal: true}, true
	case noneWord.MatchString(s):
		return api.Style{None: true}, true
	case !items.MatchString(s):
		return api.Style{}, false
	}
	var all []api.Item
	for _, one := range item.FindAllString(s, -1) {
		x, ok := itemOf(one)
		if !ok {
			return api.Style{}, false
		}
		all = append(all, x)
	}
	return api.Style{Content: all}, true
}

// countersOf is the style of counters, of their form.
func countersOf(name, s string) (api.Style, bool) {
	form := plainOnes
	if name == "counter-reset" {
		form = withRev
	}
	if noneWord.MatchString(s) {
		return api.Style{}, true
	}
	if !form.MatchString(s) {
		return api.Style{}, false
	}
	all, ok := pairsOf(s, unsaid(name))
	return counters(name, all...), ok
}

// otherOf is the style of what has neither items nor counters, of its form.
func otherOf(name, s string) (api.Style, bool) {
	word := oneWord.FindStringSubmatch(s)
	switch {
	case name == "display" && displays.MatchString(s):
		return api.Style{Display: strings.ToLower(word[1])}, true
	case name == "color" && word != nil:
		return api.Style{Color: strings.ToLower(word[1])}, true
	case name == "list-style-type" && word != nil:
		style, ok := styleOf(word[1])
		return api.Style{ListType: style}, ok
	case name == "list-style-type" && oneText.MatchString(s):
		return api.Style{ListType: `"` + oneText.FindStringSubmatch(s)[1]}, true
	case name == "quotes" && noneWord.MatchString(s):
		return api.Style{}, true
	case name == "quotes" && autoWord.MatchString(s):
		return api.Style{Auto: true}, true
	case name == "quotes" && texts.MatchString(s):
		var all []string
		for _, m := range text.FindAllStringSubmatch(s, -1) {
			all = append(all, m[1])
		}
		return api.Style{Quotes: all}, true
	}
	return api.Style{}, false
}

// expected is what the promise has for a declaration of one of the properties.
func expected(d api.Decl) (prop.Value, bool) {
	s := short(d.Value)
	v := prop.Value{Name: d.Name}
	if m := wideWord.FindStringSubmatch(s); m != nil {
		v.Wide = map[string]int{"inherit": 1, "initial": 2, "unset": 3}[strings.ToLower(m[1])]
		return v, true
	}
	var ok bool
	switch {
	case d.Name == "content":
		v.Style, ok = contentOf(s)
	case strings.HasPrefix(d.Name, "counter-"):
		v.Style, ok = countersOf(d.Name, s)
	default:
		v.Style, ok = otherOf(d.Name, s)
	}
	return v, ok
}

// holds asks Parse for what the promise has, and tells whether that is something.
func holds(t *testing.T, in string, d api.Decl) bool {
	t.Helper()
	want, ok := expected(d)
	if ok {
		tells(t, in, d, want)
	} else {
		refuses(t, in, d)
	}
	return ok
}

// words is what values are laid together from.
var words = strings.Split("a|Inherit|none|AUTO|normal|Block|Disc|default|'q'|''|3|-2|1.5|,|5x|(a)|#h|Open-quote|reversed(a)|REVERSED(b)|reversed(none)|attr(X)|counter(a)|Counters(a,'.')", "|")

// inWords is what functions' kids are laid together from.
var inWords = strings.Split("a|Unset|None|DISC|default|'q'|3|,|f(a)", "|")

// each lays up to so many of the words together.
func each(words []string, left int, s string, try func(s string) bool) bool {
	if !try(s) {
		return false
	}
	for _, w := range words {
		if left > 0 && !each(words, left-1, s+" "+w, try) {
			return false
		}
	}
	return true
}

func TestAllShortValues(t *testing.T) { // P12.2
	seen := map[string]int{}
	each(words, 3, "", func(s string) bool {
		l := nodes(s)
		for _, name := range names() {
			if holds(t, s, decl(name, l...)) {
				seen[name]++
			}
		}
		return !t.Failed() // a fault shows in very many
	})
	for _, name := range names() {
		if least := map[string]int{"content": 250, "counter-increment": 100, "counter-reset": 300, "counter-set": 100}[name]; seen[name] <= least {
			t.Errorf("only %d values of %s were told", seen[name], name)
		}
	}
}

func TestAllShortFunctions(t *testing.T) { // P12.2
	seen := map[string]int{}
	each(inWords, 5, "", func(s string) bool {
		for _, f := range []string{"attr(", "Counter(", "counters(", "reversed("} {
			name := "content"
			if f == "reversed(" {
				name = "counter-reset"
			}
			if holds(t, f+s, say(name, f+s+")")) {
				seen[f]++
			}
		}
		return !t.Failed()
	})
	for _, f := range []string{"attr(", "Counter(", "counters(", "reversed("} {
		if seen[f] < 3 {
			t.Errorf("only %d values of %s were told", seen[f], f)
		}
	}
}

// likely is words that may stand in a property's value several times.
var likely = map[string][]string{
	"color":             {"red", "Blue"},
	"content":           {"'a'", "open-quote", "No-Close-Quote", "attr(B)", "counter(a)", "counter(a,disc)", "counters(b,'.')", "counters(C,'-',Xy)"},
	"counter-increment": {"a", "B 3", "c -1"},
	"counter-reset":     {"a", "B 3", "c -1", "reversed(d)", "Reversed(e) 4"},
	"counter-set":       {"a", "B 3", "c -1"},
	"display":           {"block", "None"},
	"list-style-type":   {"disc", "'x'", "Y"},
	"quotes":            {"'a' 'b'", "'c' 'd'", "'e'"},
}

func TestSomeValues(t *testing.T) { // P12.2
	from := rand.New(rand.NewSource(12))
	seen := map[string]int{}
	for range 15000 {
		name := names()[from.Intn(8)]
		all := likely[name]
		s := ""
		for range from.Intn(40) {
			s += all[from.Intn(len(all))] + " "
			if from.Intn(200) == 0 {
				s += words[from.Intn(len(words))] + " "
			}
		}
		if holds(t, s, say(name, s)) {
			seen[name]++
		}
		if t.Failed() {
			return
		}
	}
	for _, name := range names() {
		if seen[name] < 30 {
			t.Errorf("only %d values of %s were told", seen[name], name)
		}
	}
}

func TestDeeperThanCalls(t *testing.T) { // P12.2
	defer debug.SetMaxStack(debug.SetMaxStack(1 << 20))
	for _, kind := range []api.Token{{Kind: api.Open, Text: "("}, {Kind: api.Function, Text: "counter"}, {Kind: api.Function, Text: "reversed"}, {Kind: api.Ident, Text: "none"}} {
		deep := nodes("a")
		for range 200000 {
			deep = []api.Node{{Token: kind, Kids: deep}}
		}
		for _, name := range names() {
			_, e := prop.Parse(decl(name, deep...))
			if (e == api.OK) != (kind.Kind == api.Ident) {
				t.Errorf("Parse(%s) of what is deep: %d", name, e)
			}
		}
	}
}

func TestLong(t *testing.T) { // P12.2
	for _, name := range names() {
		for _, one := range []string{"a ", "'a' ", "a 1 ", "none ", "counter(a) ", ", ", "inherit "} {
			refuses(t, "many of "+one, say(name, strings.Repeat(one, 10000)))
		}
	}
	refuses(t, "a long function", say("content", "counters(a, '.'"+strings.Repeat(", b", 10000)+")"))
	refuses(t, "a long reversed", say("counter-reset", "reversed("+strings.Repeat("a ", 10000)+")"))
	long := strings.Repeat("l", 10000)
	says(t, "content", "'"+long+"'", content(api.Item{Kind: api.Words, Text: long}))
	says(t, "list-style-type", long, api.Style{ListType: long})
}

// spoil changes all that a list of nodes leads to, its spare room too.
func spoil(l []api.Node) {
	l = l[:cap(l)]
	for i := range l {
		spoil(l[i].Kids)
		l[i] = ident("spoilt")
	}
}

func TestLeavesDecl(t *testing.T) { // P12.3
	for name, all := range values {
		for _, value := range append(all, "inherit", "bad bad 1.5") {
			value = " " + value + " /**/ "
			room := nodes(value + "spare(a)")
			d := decl(name, room[:len(room)-1]...)
			first, e := prop.Parse(d)
			second, _ := prop.Parse(d)
			third, _ := prop.Parse(d)
			if !nest.Same(room, nodes(value+"spare(a)")) {
				t.Errorf("Parse(%s: %s) changed its nodes: %v", name, value, room)
			}
			spoilStyle(first.Style)
			if !reflect.DeepEqual(second, third) || !nest.Same(room, nodes(value+"spare(a)")) {
				t.Errorf("what Parse(%s: %s) answers is not of its own: %+v", name, value, second)
			}
			spoil(room)
			if again, f := prop.Parse(say(name, value)); !reflect.DeepEqual(second, again) || f != e {
				t.Errorf("Parse(%s: %s) keeps its nodes: %+v", name, value, second)
			}
		}
	}
}
