package registry_test

import (
	"fmt"
	"math"
	"math/rand"
	"runtime/debug"
	"strings"
	"testing"
	"unicode/utf8"

	"fleuron/api"
	"fleuron/define"
	"fleuron/registry"
	"fleuron/system"
)

// plain is a registry as the promises' words have it, worked out anew for each question.
type plain map[string]system.Def

func plainOf(l []api.Rule) plain {
	p := plain(owns())
	for _, r := range l {
		if d, e := define.Parse(r); e == api.OK {
			p[d.Name] = d
		}
	}
	return p
}

// comesBack tells whether one comes back to a style by extending.
func (p plain) comesBack(name string) bool {
	at := name
	for range len(p) {
		d, ok := p[at]
		if !ok || d.System != "extends" {
			return false
		}
		at = d.Extends
		if at == name {
			return true
		}
	}
	return false
}

func (p plain) find(name string) (system.Def, bool) {
	if small := strings.ToLower(name); strings.Contains(" "+ownNames+" ", " "+small+" ") {
		name = small
	}
	d, ok := p[name]
	if !ok || d.System != "extends" {
		return d, ok
	}
	of, there := system.Def{}, false
	if !p.comesBack(name) {
		of, there = p.find(d.Extends)
	}
	if !there {
		of = p["decimal"]
	}
	all := of
	all.Name, all.Extends, all.Said = d.Name, d.Extends, d.Said
	if d.Said&1 > 0 {
		all.Negative = d.Negative
	}
	if d.Said&2 > 0 {
		all.Prefix = d.Prefix
	}
	if d.Said&4 > 0 {
		all.Suffix = d.Suffix
	}
	if d.Said&8 > 0 {
		all.Auto, all.Range = d.Auto, d.Range
	}
	if d.Said&16 > 0 {
		all.Pad, all.PadSign = d.Pad, d.PadSign
	}
	if d.Said&32 > 0 {
		all.Fallback = d.Fallback
	}
	return all, true
}

// tried is the styles that are tried for n, and the signs of the last one.
func (p plain) tried(name string, n int) ([]system.Def, string) {
	var all []system.Def
	for {
		d, ok := p.find(name)
		for _, x := range all {
			ok = ok && x.Name != d.Name
		}
		if !ok {
			d = p["decimal"]
		}
		all = append(all, d)
		of := n
		if system.Uses(d, n) {
			of = -n
		}
		if s, ok := system.Signs(d, of); ok && system.In(d, n) {
			return all, s
		}
		name = d.Fallback
	}
}

func (p plain) text(name string, n int) string {
	all, s := p.tried(name, n)
	d := all[len(all)-1]
	marks := [2]string{}
	if system.Uses(d, n) {
		marks = d.Negative
	}
	for utf8.RuneCountInString(s)+utf8.RuneCountInString(marks[0]+marks[1]) < d.Pad && len(d.PadSign) == 1 {
		s = d.PadSign + s
	}
	return marks[0] + s + marks[1]
}

// someNames is those that styles have, extend, fall back to, and are asked of.
var someNames = strings.Fields("a b c d e A lower-alpha Upper-Roman LOWER-greek decimal Disc none nosuch decimal-leading-zero")

// someSystems and someSays are what they say besides.
var (
	someSystems = []string{"cyclic;symbols:p q", "fixed 3;symbols:p q r", "fixed;symbols:s", "symbolic;symbols:t u", "alphabetic;symbols:x y", "numeric;symbols:'0' '1' '2'", "additive;additive-symbols:5 v,3 w,0 o", "additive;additive-symbols:1 i", "cyclic"}
	someSays    = []string{"negative:'('  ')'", "negative:m", "prefix:P", "suffix:')'", "range:auto", "range:1 3", "range:-5 -2,6 9", "range:infinite infinite", "pad:4 '_'", "pad:2 '0'", "pad:0 z"}
)

// someSheet is one with some styles.
func someSheet(from *rand.Rand) string {
	pick := func(l []string) string { return l[from.Intn(len(l))] }
	text := ""
	for range 1 + from.Intn(12) {
		text += "@counter-style " + pick(someNames) + "{system:"
		if from.Intn(5) > 1 {
			text += "extends " + pick(someNames)
		} else {
			text += pick(someSystems)
		}
		for range from.Intn(4) {
			text += ";" + pick(someSays)
		}
		if from.Intn(4) > 0 {
			text += ";fallback:" + pick(someNames)
		}
		text += "}\n"
	}
	return text
}

// someNumbers is a few that may be edges, and one of any size.
func someNumbers(from *rand.Rand) []int {
	l := []int{math.MinInt32, math.MaxInt32, int(int32(from.Uint32()))}
	for range 8 {
		l = append(l, from.Intn(20)-7)
	}
	return l
}

// holds asks a registry all of a name, and tells the longest of its chains.
func holds(t *testing.T, text string, r *registry.Registry, p plain, name string, l []int) int {
	t.Helper()
	want, there := p.find(name)
	if there {
		finds(t, r, name, want)
	} else {
		misses(t, r, name)
		want = p["decimal"]
	}
	longest := 0
	for _, n := range l {
		all, _ := p.tried(name, n)
		var names []string
		for _, d := range all {
			names = append(names, d.Name)
		}
		chains(t, r, name, n, strings.Join(names, " "))
		texts(t, r, name, p.text(name, n), n)
		marks(t, r, name, n, want.Prefix+p.text(name, n)+want.Suffix)
		longest = max(longest, len(all))
	}
	if t.Failed() {
		t.Log(text)
	}
	return longest
}

func TestSomeSheets(t *testing.T) { // P11.1 P11.2
	from := rand.New(rand.NewSource(11))
	lengths := map[int]int{}
	rings := 0
	for range 2500 {
		text := someSheet(from)
		l := rulesOf(text)
		r, p := registry.New(l), plainOf(l)
		numbers := someNumbers(from)
		for _, name := range someNames {
			lengths[holds(t, text, r, p, name, numbers)]++
			if p.comesBack(name) {
				rings++
			}
		}
		if t.Failed() {
			return
		}
	}
	for n := 1; n <= 4; n++ {
		if lengths[n] < 50 {
			t.Errorf("only %d chains are of %d styles", lengths[n], n)
		}
	}
	if rings < 300 {
		t.Errorf("only %d styles come back", rings)
	}
}

func TestAlwaysATextInTheEnd(t *testing.T) { // P11.3
	from := rand.New(rand.NewSource(3))
	for range 1000 {
		text := someSheet(from)
		r := registry.New(rulesOf(text))
		for _, name := range someNames {
			for _, n := range someNumbers(from) {
				if r.Text(name, n) == "" {
					t.Fatalf("Text(%q, %d) is empty of %s", name, n, text)
				}
			}
		}
	}
}

// numbered is a rule for each number below n, with what it says of the next one in place of NEXT.
func numbered(n int, says string) []api.Rule {
	model := rulesOf("@counter-style NAME{" + says + "}")[0]
	all := make([]api.Rule, n)
	for i := range all {
		r := model
		r.Prelude = []api.Node{{Token: api.Token{Kind: api.Ident, Text: fmt.Sprint("s", i)}}}
		r.Decls = nil
		for _, d := range model.Decls {
			d.Value = append([]api.Node{}, d.Value...)
			for k := range d.Value {
				if d.Value[k].Token.Text == "NEXT" {
					d.Value[k].Token.Text = fmt.Sprint("s", i+1)
				}
			}
			r.Decls = append(r.Decls, d)
		}
		all[i] = r
	}
	return all
}

func TestWaysLongerThanCalls(t *testing.T) { // P11.2 P11.3
	defer debug.SetMaxStack(debug.SetMaxStack(1 << 20))
	const n = 100000
	last := fmt.Sprint("s", n-1)
	l := numbered(n, "system:extends NEXT")
	r := registry.New(l)
	marks(t, r, "s0", -5, "-5. ") // the last one extends none that is there
	l = append(l, numbered(n, "system:extends s0;prefix:p")[n-1])
	r = registry.New(l) // a ring
	for _, name := range []string{"s0", "s1", last} {
		d, _ := r.Find(name)
		if want := map[bool]string{true: "p"}[name == last]; d.Prefix != want || d.System != "numeric" || d.Name != name {
			t.Errorf("Find(%q) = %+v of a ring", name, d)
		}
	}
	l[len(l)-1] = numbered(n, "system:cyclic;symbols:x")[n-1]
	marks(t, registry.New(l), "s0", 5, "x. ")
	r = registry.New(numbered(n, "system:fixed;symbols:f;fallback:NEXT"))
	if got := r.Chain("s0", 7); len(got) != n+1 || got[n-1] != last || got[n] != "decimal" {
		t.Errorf("Chain has %d names", len(got))
	}
	texts(t, r, "s0", "f 7", 1, 7)
}

func TestManyAskedOften(t *testing.T) { // P11.2
	// As many styles as a sheet may have, each of which extends the next one and falls back to it.
	text := ""
	for i := range api.MaxRules {
		text += fmt.Sprintf("@counter-style s%d{system:extends s%d;range:%d %d;fallback:s%d}", i, i+1, i, i, i+1)
	}
	r := registry.New(rulesOf(text))
	for n := range api.MaxRules {
		if got := r.Chain("s0", n); len(got) != n+1 {
			t.Fatalf("Chain(s0, %d) has %d names", n, len(got))
		}
	}
	texts(t, r, "s0", "499 500 -1", 499, 500, -1)
}
