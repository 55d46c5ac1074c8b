package registry_test

import (
	"fmt"
	"math"
	"reflect"
	"slices"
	"strconv"
	"strings"
	"testing"

	"fleuron/api"
	"fleuron/registry"
	"fleuron/rules"
	"fleuron/system"
)

// rulesOf is a text's.
func rulesOf(s string) []api.Rule {
	l, e := rules.Sheet([]byte(s))
	if e != api.OK {
		panic(s)
	}
	return l
}

// of is the registry of a text's rules; `@x` in it is short for a style.
func of(s string) *registry.Registry {
	return registry.New(rulesOf(strings.ReplaceAll(s, "@x", "@counter-style")))
}

// same compares two; nil and an empty list are the same.
func same(a, b system.Def) bool {
	for _, d := range []*system.Def{&a, &b} {
		d.Symbols = append([]string{}, d.Symbols...)
		d.Weights = append([]int{}, d.Weights...)
		d.Range = append([][2]int{}, d.Range...)
	}
	return reflect.DeepEqual(a, b)
}

// finds asks Find for a style.
func finds(t *testing.T, r *registry.Registry, name string, want system.Def) {
	t.Helper()
	if got, ok := r.Find(name); !same(got, want) || !ok {
		t.Errorf("Find(%q):\n got %+v, %t\nwant %+v", name, got, ok, want)
	}
}

// misses asks Find for nothing.
func misses(t *testing.T, r *registry.Registry, name string) {
	t.Helper()
	if got, ok := r.Find(name); !reflect.DeepEqual(got, system.Def{}) || ok {
		t.Errorf("Find(%q) = %+v, %t, want none", name, got, ok)
	}
}

// texts asks Text of some numbers for texts, parted by blanks.
func texts(t *testing.T, r *registry.Registry, name string, want string, l ...int) {
	t.Helper()
	var got []string
	for _, n := range l {
		got = append(got, r.Text(name, n))
	}
	if s := strings.Join(got, " "); s != want {
		t.Errorf("Text(%q, %v) = %q, want %q", name, l, s, want)
	}
}

// marks asks Marker for a text.
func marks(t *testing.T, r *registry.Registry, name string, n int, want string) {
	t.Helper()
	if got := r.Marker(name, n); got != want {
		t.Errorf("Marker(%q, %d) = %q, want %q", name, n, got, want)
	}
}

// chains asks Chain for names, parted by blanks.
func chains(t *testing.T, r *registry.Registry, name string, n int, want string) {
	t.Helper()
	if got := strings.Join(r.Chain(name, n), " "); got != want {
		t.Errorf("Chain(%q, %d) = %q, want %q", name, n, got, want)
	}
}

// ownNames is the own styles', by bytes.
const ownNames = "circle decimal decimal-leading-zero disc lower-alpha lower-greek lower-roman square upper-alpha upper-roman"

// own is an own style as the chapter has it, with a change.
func own(name, kind, symbols string, change func(d *system.Def)) system.Def {
	d := system.Def{
		Name: name, System: kind, Symbols: strings.Split(symbols, " "),
		Negative: [2]string{"-", ""}, Suffix: ". ", Auto: true, Fallback: "decimal",
	}
	if change != nil {
		change(&d)
	}
	return d
}

// owns is all of them.
func owns() map[string]system.Def {
	const digits = "0 1 2 3 4 5 6 7 8 9"
	const latin = "a b c d e f g h i j k l m n o p q r s t u v w x y z"
	const numerals = "m cm d cd c xc l xl x ix v iv i"
	var greek []string
	for r := rune(0x3b1); r <= 0x3c9; r++ {
		if r != 0x3c2 {
			greek = append(greek, string(r))
		}
	}
	blank := func(d *system.Def) { d.Suffix = " " }
	padded := func(d *system.Def) { d.Pad, d.PadSign = 2, "0" }
	roman := func(d *system.Def) {
		d.Weights = []int{1000, 900, 500, 400, 100, 90, 50, 40, 10, 9, 5, 4, 1}
		d.Auto, d.Range = false, [][2]int{{1, 3999}}
	}
	all := map[string]system.Def{}
	for _, d := range []system.Def{
		own("decimal", "numeric", digits, nil),
		own("decimal-leading-zero", "numeric", digits, padded),
		own("lower-alpha", "alphabetic", latin, nil),
		own("upper-alpha", "alphabetic", strings.ToUpper(latin), nil),
		own("lower-roman", "additive", numerals, roman),
		own("upper-roman", "additive", strings.ToUpper(numerals), roman),
		own("lower-greek", "alphabetic", strings.Join(greek, " "), nil),
		own("disc", "cyclic", "\u2022", blank),
		own("circle", "cyclic", "\u25e6", blank),
		own("square", "cyclic", "\u25aa", blank),
	} {
		all[d.Name] = d
	}
	return all
}

// letters is a name in letters of several kinds.
func letters(s string) []string {
	mixed := ""
	for i := range s {
		if i%2 == 0 {
			mixed += strings.ToUpper(s[i : i+1])
		} else {
			mixed += s[i : i+1]
		}
	}
	return []string{s, strings.ToUpper(s), strings.ToUpper(s[:1]) + s[1:], mixed}
}

func TestOwn(t *testing.T) { // P11.1
	if got := strings.Join(registry.Own(), " "); got != ownNames {
		t.Errorf("Own() = %q", got)
	}
	if got := registry.Own(); !slices.IsSorted(got) {
		t.Errorf("Own() = %q is not by bytes", got)
	}
	all := owns()
	if len(all) != len(registry.Own()) {
		t.Fatalf("%d own styles", len(all))
	}
	var none *registry.Registry
	for _, r := range []*registry.Registry{registry.New(nil), registry.New([]api.Rule{}), none, {}, of("@x y{symbols:a}")} {
		for _, name := range registry.Own() {
			for _, in := range letters(name) {
				finds(t, r, in, all[name])
			}
		}
	}
	for name, d := range all {
		if !system.May(d) {
			t.Errorf("%s may not be", name)
		}
	}
}

func TestFindNone(t *testing.T) { // P11.1
	r := of("@x Ab{symbols:a} @x \\c4{symbols:b} @x k{symbols:c}")
	for _, name := range []string{"", " ", "none", "initial", "nosuch", "ab", "AB", "aB", "Ab ", " Ab", "disc ", "dis", "discs", "lower-latin", "armenian", "\u00e4", "K", "\u212a", "lower-gree\u212a", "di\u017fc", "\xff", "\x00", "symbolic", "extends", "-", strings.Repeat("decimal", 1000)} {
		misses(t, r, name)
		texts(t, r, name, "-3", -3)
		marks(t, r, name, -3, "-3. ")
		chains(t, r, name, -3, "decimal")
	}
	for name, sign := range map[string]string{"Ab": "a", "\u00c4": "b", "k": "c"} {
		finds(t, r, name, system.Def{Name: name, System: "symbolic", First: 1, Symbols: []string{sign}, Negative: [2]string{"-", ""}, Suffix: ". ", Auto: true, Fallback: "decimal"})
	}
}

func TestNew(t *testing.T) { // P11.1
	r := of("@x a{symbols:old;prefix:p} @x b{symbols:b} p{} @x a{system:cyclic;symbols:new} @x a{} @x A{symbols:great} @media x{} @x none{symbols:x} @x c{symbols:c}@x C;@x \"d\"{symbols:d}")
	finds(t, r, "a", system.Def{Name: "a", System: "cyclic", First: 1, Symbols: []string{"new"}, Negative: [2]string{"-", ""}, Suffix: ". ", Auto: true, Fallback: "decimal"})
	texts(t, r, "a", "new new new", 1, 2, -3)
	texts(t, r, "A", "great greatgreat", 1, 2)
	texts(t, r, "b", "b bb", 1, 2)
	texts(t, r, "c", "c cc", 1, 2)
	for _, name := range []string{"", "none", "C", "d", "\"d\""} {
		misses(t, r, name)
	}
	rule := rulesOf("@counter-style z{symbols:z}")[0]
	other, without := rule, rule
	other.At, without.Block = "counter", false
	misses(t, registry.New([]api.Rule{other, without, {}}), "z")
}

func TestOwnByRules(t *testing.T) { // P11.1
	all := owns()
	for name := range all {
		for _, in := range letters(name) {
			r := of("@x q{symbols:q}@x " + in + "{system:cyclic;symbols:mine} @x s{symbols:s}")
			for _, other := range registry.Own() {
				if other != name || slices.Contains([]string{"decimal", "disc", "circle", "square"}, other) {
					finds(t, r, strings.ToUpper(other), all[other])
					continue
				}
				want := system.Def{Name: name, System: "cyclic", First: 1, Symbols: []string{"mine"}, Negative: [2]string{"-", ""}, Suffix: ". ", Auto: true, Fallback: "decimal"}
				for _, again := range letters(name) {
					finds(t, r, again, want)
				}
			}
		}
	}
	r := of("@x Lower-Alpha{system:cyclic;symbols:one} @x LOWER-ALPHA{system:cyclic;symbols:two} @x y{system:extends LOWER-alpha} @x z{symbols:z;range:5 5;fallback:lower-ALPHA}")
	texts(t, r, "lower-alpha", "two", 5)
	texts(t, r, "y", "two", 5)
	chains(t, r, "z", 4, "z lower-alpha")
}

// base is all that one may say, and lots is one that says it.
const (
	base = "@x base{system:alphabetic;symbols:x y;negative:N M;prefix:P;suffix:S;range:-9 9,20 30;pad:5 '.';fallback:upper-roman}"
	says = "negative:'(' ')'|prefix:'<'|suffix:'>'|range:1 2|pad:3 '_'|fallback:square"
)

// wantOf is what one that extends base has, of which those bits are said.
func wantOf(bits int) system.Def {
	d := system.Def{Name: "a", System: "alphabetic", First: 1, Symbols: []string{"x", "y"}, Negative: [2]string{"N", "M"}, Prefix: "P", Suffix: "S", Range: [][2]int{{-9, 9}, {20, 30}}, Pad: 5, PadSign: ".", Fallback: "upper-roman", Extends: "base", Said: bits}
	for i, change := range []func(){
		func() { d.Negative = [2]string{"(", ")"} },
		func() { d.Prefix = "<" },
		func() { d.Suffix = ">" },
		func() { d.Range = [][2]int{{1, 2}} },
		func() { d.Pad, d.PadSign = 3, "_" },
		func() { d.Fallback = "square" },
	} {
		if bits>>i&1 == 1 {
			change()
		}
	}
	return d
}

func TestExtendsAllThatIsNotSaid(t *testing.T) { // P11.1
	for bits := range 64 {
		var said []string
		for i, s := range strings.Split(says, "|") {
			if bits>>i&1 == 1 {
				said = append(said, s)
			}
		}
		text := "@x a{system:extends base;" + strings.Join(said, ";") + "}"
		for _, sheet := range []string{base + text, text + base, "@x base{symbols:z}" + text + base} {
			finds(t, of(sheet), "a", wantOf(bits))
		}
	}
}

func TestExtendsWhatSaysAsMuch(t *testing.T) { // P11.1
	// What is said in the same words as what is not said counts as said, and so does what is said to be nothing.
	r := of(base + "@x a{system:extends base;negative:'-' '';prefix:'';suffix:'. ';range:auto;pad:0 '';fallback:decimal}")
	want := wantOf(63)
	want.Negative, want.Prefix, want.Suffix, want.Auto, want.Range, want.Pad, want.PadSign, want.Fallback = [2]string{"-", ""}, "", ". ", true, nil, 0, "", "decimal"
	finds(t, r, "a", want)
	// A bit of the middle one counts for it alone.
	r = of(base + "@x a{system:extends m}@x m{system:extends base;prefix:m;range:auto}")
	want = wantOf(0)
	want.Prefix, want.Auto, want.Range, want.Extends = "m", true, nil, "m"
	finds(t, r, "a", want)
	r = of("@x a{system:extends m;range:3 4}@x m{system:extends b}@x b{system:fixed 7;symbols:p q}")
	finds(t, r, "a", system.Def{Name: "a", System: "fixed", First: 7, Symbols: []string{"p", "q"}, Negative: [2]string{"-", ""}, Suffix: ". ", Range: [][2]int{{3, 4}}, Fallback: "decimal", Extends: "m", Said: 8})
	finds(t, r, "m", system.Def{Name: "m", System: "fixed", First: 7, Symbols: []string{"p", "q"}, Negative: [2]string{"-", ""}, Suffix: ". ", Auto: true, Fallback: "decimal", Extends: "b"})
}

func TestExtendsOwn(t *testing.T) { // P11.1
	for name, d := range owns() {
		for _, in := range letters(name) {
			d.Name, d.Extends = "a", name
			finds(t, of("@x a{system:extends "+in+"}"), "a", d)
		}
	}
	d := owns()["decimal"]
	for _, in := range []string{"nosuch", "A", "Decimals", "\\c4"} {
		d.Name, d.Prefix, d.Said = "a", "p", 2
		got, _ := of("@x a{system:extends " + in + ";prefix:p}").Find("a")
		got.Extends = ""
		if !same(got, d) {
			t.Errorf("a that extends %s: %+v", in, got)
		}
	}
}

func TestExtendsRings(t *testing.T) { // P11.1
	r := of("@x a{system:extends b;prefix:A} @x b{system:extends c;suffix:B} @x c{system:extends a;negative:C} @x d{system:extends a;suffix:D} @x e{system:extends d} @x f{system:extends f;prefix:F} @x g{system:extends f} @x upper-alpha{system:extends UPPER-alpha;prefix:U} @x lower-alpha{system:extends lower-greek} @x lower-greek{system:extends lower-alpha;pad:3 x}")
	for name, want := range map[string]string{
		"a": "A-5. ", "b": "-5B", "c": "C5. ", "d": "A-5D", "e": "A-5D",
		"f": "F-5. ", "g": "F-5. ", "upper-alpha": "U-5. ", "lower-alpha": "-5. ", "lower-greek": "-x5. ",
	} {
		marks(t, r, name, -5, want)
		d, ok := r.Find(name)
		if !ok || d.Name != name || d.System != "numeric" || d.First != 0 || len(d.Symbols) != 10 {
			t.Errorf("Find(%q) = %+v, %t", name, d, ok)
		}
	}
	// A later one breaks the ring.
	r = of("@x a{system:extends b;prefix:A} @x b{system:extends a;suffix:B} @x a{symbols:a}")
	marks(t, r, "b", 2, "aaB")
}

func TestDecimal(t *testing.T) { // P11.2
	r := registry.New(nil)
	for _, n := range []int{0, 1, 9, 10, 99, 100, 12345, math.MaxInt32 - 1, math.MaxInt32, math.MinInt32, math.MinInt32 + 1} {
		for _, n := range []int{n, -n} {
			want := strconv.Itoa(min(n, math.MaxInt32))
			texts(t, r, "decimal", want, n)
			texts(t, r, "nosuch", want, n)
			marks(t, r, "DECIMAL", n, want+". ")
			chains(t, r, "Decimal", n, "decimal")
			if len(want) == 1 {
				want = "0" + want
			}
			texts(t, r, "decimal-leading-zero", want, n)
		}
	}
}

func TestHeld(t *testing.T) { // P11.2
	r := of("@x a{system:numeric;symbols:'0' '1';range:infinite -2147483648,2147483647 infinite;fallback:b} @x b{system:cyclic;symbols:x}")
	for _, n := range []int{math.MaxInt32, math.MaxInt32 + 1, 1 << 32, 1<<32 + 5, math.MaxInt} {
		texts(t, r, "a", strings.Repeat("1", 31), n)
		texts(t, r, "decimal", "2147483647", n)
		chains(t, r, "a", n, "a")
	}
	for _, n := range []int{math.MinInt32, math.MinInt32 - 1, -1 << 32, -1<<32 - 5, math.MinInt} {
		texts(t, r, "a", "-1"+strings.Repeat("0", 31), n)
		texts(t, r, "decimal", "-2147483648", n)
		marks(t, r, "a", n, "-1"+strings.Repeat("0", 31)+". ")
		chains(t, r, "a", n, "a")
	}
	for _, n := range []int{math.MaxInt32 - 1, math.MinInt32 + 1, 0} {
		chains(t, r, "a", n, "a b")
	}
}

func TestOwnTexts(t *testing.T) { // P11.2
	r := registry.New(nil)
	texts(t, r, "lower-alpha", "a z aa az ba zz aaa 0 -1", 1, 26, 27, 52, 53, 702, 703, 0, -1)
	texts(t, r, "Upper-Alpha", "A Z AA FXSHRXW", 1, 26, 27, math.MaxInt32)
	texts(t, r, "lower-roman", "i ii iii iv v vi ix xl xc cd cm mmmcmxcix 4000 0 -1", 1, 2, 3, 4, 5, 6, 9, 40, 90, 400, 900, 3999, 4000, 0, -1)
	texts(t, r, "UPPER-ROMAN", "MCMXCIV MMXXVI", 1994, 2026)
	texts(t, r, "lower-greek", "\u03b1 \u03c1 \u03c3 \u03c9 \u03b1\u03b1", 1, 17, 18, 24, 25)
	for name, sign := range map[string]string{"disc": "\u2022", "circle": "\u25e6", "square": "\u25aa"} {
		for _, n := range []int{math.MinInt, -1, 0, 1, 2, math.MaxInt} {
			texts(t, r, name, sign, n)
			marks(t, r, name, n, sign+" ")
			chains(t, r, strings.ToUpper(name), n, name)
		}
	}
	marks(t, r, "lower-roman", 4000, "4000. ")
	chains(t, r, "lower-roman", 4000, "lower-roman decimal")
	chains(t, r, "lower-alpha", 0, "lower-alpha decimal")
}

func TestChain(t *testing.T) { // P11.2
	r := of("@x a{symbols:x;range:1 3;fallback:b} @x b{system:fixed 4;symbols:p q;fallback:c} @x c{system:cyclic;symbols:z;range:infinite 0;fallback:a} @x d{system:fixed;symbols:d;fallback:d} @x e{system:fixed;symbols:e;fallback:nosuch} @x f{system:fixed;symbols:f;fallback:Lower-Roman} @x g{system:fixed;symbols:g;prefix:G;suffix:H;negative:n m;pad:9 '_';fallback:f} @x h{system:extends g;range:7 7} @x i{system:extends e;fallback:h}")
	chains(t, r, "a", 1, "a")
	chains(t, r, "a", 4, "a b")
	chains(t, r, "a", 6, "a b c decimal")
	chains(t, r, "a", 0, "a b c")
	chains(t, r, "b", 6, "b c a decimal")
	chains(t, r, "c", 3, "c a")
	chains(t, r, "d", 2, "d decimal")
	chains(t, r, "e", 2, "e decimal")
	chains(t, r, "f", 2, "f lower-roman")
	chains(t, r, "f", 4000, "f lower-roman decimal")
	chains(t, r, "g", 4000, "g f lower-roman decimal")
	chains(t, r, "h", 1, "h f")
	chains(t, r, "h", 7, "h f lower-roman")
	chains(t, r, "i", 9, "i h f lower-roman")
	texts(t, r, "a", "xx p z 6", 2, 4, -7, 6)
	texts(t, r, "h", "f vii -4", 1, 7, -4)
	marks(t, r, "h", 7, "GviiH")
	marks(t, r, "g", -1, "G-1H")
}

func TestChainOfSigns(t *testing.T) { // P11.2
	// Within its range a style may have no signs: too many of them, or none at all.
	r := of("@x many{symbols:m;range:-100 100} @x sum{system:additive;additive-symbols:5 f,3 t;range:-20 20} @x nought{system:additive;additive-symbols:3 t,0 o;negative:m} @x way{system:alphabetic;symbols:a b;range:infinite infinite;negative:m} @x low{system:numeric;symbols:o i;range:-3 -2;negative:m}")
	texts(t, r, "many", strings.Repeat("m", 60)+" 61 -"+strings.Repeat("m", 60)+" -61 0", 60, 61, -60, -61, 0)
	chains(t, r, "many", 61, "many decimal")
	chains(t, r, "many", -61, "many decimal")
	texts(t, r, "sum", "f fft 7 14 -t -f -1 0 ffff 21", 5, 13, 7, 14, -3, -5, -1, 0, 20, 21)
	chains(t, r, "sum", 13, "sum")
	chains(t, r, "sum", 14, "sum decimal")
	texts(t, r, "nought", "o t 1 -3", 0, 3, 1, -3)
	texts(t, r, "way", "b mb mab 0", 2, -2, -4, 0)
	texts(t, r, "low", "mii mio -1 2", -3, -2, -1, 2)
}

func TestPad(t *testing.T) { // P11.2
	r := of("@x p{system:numeric;symbols:'0' '1';pad:5 '.';negative:'(' '))'} @x q{system:cyclic;symbols:'\\e9\\e9';pad:4 'ab'} @x w{system:cyclic;symbols:w;pad:3 '';negative:'nnnn'} @x z{system:cyclic;symbols:w;pad:0 'x'} @x k{symbols:'';pad:2 k} @x l{system:numeric;symbols:a b;pad:200 '\\1f600'} @x n{system:numeric;symbols:'0' '1';negative:'\\e9\\1f600';pad:4 x;range:-2 5}")
	texts(t, r, "p", "....1 ..101 10101 100000 (.1)) (10)) (111)) (1000))", 1, 5, 21, 32, -1, -2, -7, -8)
	texts(t, r, "q", "abab\u00e9\u00e9 abab\u00e9\u00e9", 1, -1)
	texts(t, r, "w", "w w", 1, -1)
	texts(t, r, "z", "w", 1)
	texts(t, r, "k", "kk kk", 1, 60)
	texts(t, r, "l", strings.Repeat("\U0001f600", 199)+"b -"+strings.Repeat("\U0001f600", 198)+"b", 1, -1)
	texts(t, r, "n", "xx10 \u00e9\U0001f600x1 \u00e9\U0001f60010 -3", 2, -1, -2, -3)
	// The fallback's Pad counts, not that of the one that falls back.
	r = of("@x a{system:fixed;symbols:a;pad:9 x;negative:N;fallback:b} @x b{system:numeric;symbols:'0' '1';pad:3 y}")
	texts(t, r, "a", "xxxxxxxxa y10 -y1", 1, 2, -1)
}

func TestPadOfBytesThatAreNoSigns(t *testing.T) { // P11.2
	rule := rulesOf("@counter-style a{system:cyclic;symbols:s;pad:4 p}")[0]
	rule.Decls[1].Value[0].Token.Text = "\xff\xe2\x82"
	texts(t, registry.New([]api.Rule{rule}), "a", "p\xff\xe2\x82", 1)
}

func TestMarker(t *testing.T) { // P11.2
	r := of("@x a{system:fixed;symbols:a;prefix:'<';suffix:'>';fallback:b} @x b{system:fixed 2;symbols:b;prefix:'[';suffix:']'} @x c{symbols:c;suffix:''} @x d{system:extends a;prefix:D}")
	marks(t, r, "a", 1, "<a>")
	marks(t, r, "a", 2, "<b>")
	marks(t, r, "a", 3, "<3>")
	marks(t, r, "b", 3, "[3]")
	marks(t, r, "c", 3, "ccc")
	marks(t, r, "c", -3, "-3")
	marks(t, r, "d", 2, "Db>")
	marks(t, r, "nosuch", 2, "2. ")
}

func TestEmptySymbols(t *testing.T) { // P11.3
	r := of("@x a{system:cyclic;symbols:'' b;prefix:P} @x c{system:extends a;range:2 2;fallback:a}")
	texts(t, r, "a", " b ", 1, 2, 3)
	marks(t, r, "a", 1, "P. ")
	marks(t, r, "c", 1, "P. ")
	chains(t, r, "c", 1, "c a")
}

func TestNamesByHand(t *testing.T) { // P11.1
	// A rule that is handed in by hand may have an empty name.
	rule := rulesOf("@counter-style a{symbols:s}")[0]
	rule.Prelude[0].Token.Text = ""
	extending := rulesOf("@counter-style b{system:extends c;prefix:p}")[0]
	extending.Decls[0].Value[2].Token.Text = ""
	r := registry.New([]api.Rule{rule, extending})
	texts(t, r, "", "ss", 2)
	marks(t, r, "b", 2, "pss. ")
}

func TestNilRegistry(t *testing.T) { // P11.3
	var none *registry.Registry
	for _, r := range []*registry.Registry{none, {}, registry.New(nil)} {
		for name, d := range owns() {
			finds(t, r, name, d)
		}
		misses(t, r, "x")
		texts(t, r, "lower-alpha", "c", 3)
		texts(t, r, "x", "3", 3)
		marks(t, r, "square", 3, "\u25aa ")
		chains(t, r, "upper-roman", 0, "upper-roman decimal")
	}
}

// told is all that a registry tells of some names.
func told(r *registry.Registry, names ...string) string {
	s := fmt.Sprint(registry.Own())
	for _, name := range append(names, registry.Own()...) {
		d, ok := r.Find(name)
		s += fmt.Sprintf("%+v %t %q %q %q\n", d, ok, r.Text(name, 7), r.Marker(name, -7), r.Chain(name, 0))
	}
	return s
}

// spoil changes all lists that lead from what Find, Chain and Own answer, their spare room too.
func spoil(r *registry.Registry, names ...string) {
	for _, name := range append(names, registry.Own()...) {
		d, _ := r.Find(name)
		for _, l := range [][]string{d.Symbols, r.Chain(name, 0), registry.Own()} {
			l = l[:cap(l)]
			for i := range l {
				l[i] = "spoilt"
			}
		}
		weights, bounds := d.Weights[:cap(d.Weights)], d.Range[:cap(d.Range)]
		for i := range weights {
			weights[i] = -1
		}
		for i := range bounds {
			bounds[i] = [2]int{5, 4}
		}
	}
}

// full is a sheet with styles of all kinds.
const full = "@counter-style a{symbols:a b;range:1 20;negative:x y;fallback:b} @counter-style b{system:additive;additive-symbols:5 f,1 i;range:1 9} @counter-style c{system:extends b;prefix:c} @counter-style d{system:extends c} @counter-style e{system:extends lower-roman} @counter-style f{system:extends f} @counter-style g{system:extends nosuch}"

func TestNewMemory(t *testing.T) { // P11.3
	names := []string{"a", "b", "c", "d", "e", "f", "g"}
	var none *registry.Registry
	for _, r := range []*registry.Registry{registry.New(rulesOf(full)), none} {
		was := told(r, names...)
		spoil(r, names...)
		if now := told(r, names...); now != was {
			t.Errorf("what is answered is not of its own:\n%s\n%s", was, now)
		}
	}
	one, other := registry.New(rulesOf(full)), registry.New(rulesOf(full))
	was := told(other, names...)
	spoil(one, names...)
	if told(other, names...) != was {
		t.Error("two registries have something in common")
	}
}

func TestLeavesRules(t *testing.T) { // P11.3
	names := []string{"a", "b", "c", "d", "e", "f", "g"}
	room := rulesOf(full + "@counter-style spare{symbols:s}")
	r := registry.New(room[:len(room)-1])
	misses(t, r, "spare")
	if !reflect.DeepEqual(room, rulesOf(full+"@counter-style spare{symbols:s}")) {
		t.Error("New changed its rules")
	}
	was := told(r, names...)
	for i := range room {
		for j := range room[i].Decls {
			for k := range room[i].Decls[j].Value {
				room[i].Decls[j].Value[k] = api.Node{}
			}
			room[i].Decls[j] = api.Decl{}
		}
		for j := range room[i].Prelude {
			room[i].Prelude[j] = api.Node{}
		}
		room[i] = api.Rule{}
	}
	if now := told(r, names...); now != was {
		t.Errorf("New keeps its rules:\n%s\n%s", was, now)
	}
}
