package define_test

import (
	"fmt"
	"math"
	"reflect"
	"slices"
	"strings"
	"testing"

	"fleuron/api"
	"fleuron/define"
	"fleuron/nest"
	"fleuron/points"
	"fleuron/rules"
	"fleuron/system"
	"fleuron/token"
)

// nodes is a text's.
func nodes(s string) []api.Node { return nest.All(token.All(points.Read([]byte(s)))) }

// leaf is a node that is a token alone.
func leaf(t api.Token) api.Node { return api.Node{Token: t} }

func ident(s string) api.Node  { return leaf(api.Token{Kind: api.Ident, Text: s}) }
func quoted(s string) api.Node { return leaf(api.Token{Kind: api.String, Text: s}) }
func whole(n int) api.Node     { return leaf(api.Token{Kind: api.Number, Int: n, Whole: true}) }
func white() api.Node          { return leaf(api.Token{Kind: api.White}) }

// decl is a descriptor of nodes that are handed in as they are.
func decl(name string, l ...api.Node) api.Decl { return api.Decl{Name: name, Value: l} }

// named is a rule of that prelude.
func named(prelude string, l ...api.Decl) api.Rule {
	return api.Rule{At: "counter-style", Prelude: nodes(prelude), Block: true, Decls: l}
}

// x is a style named x, of the declarations of a text.
func x(s string) api.Rule { return named("x", rules.Decls(nodes(s))...) }

// plain is a style of which nothing is said but its symbol, with some changes.
func plain(change ...func(d *system.Def)) system.Def {
	d := system.Def{
		Name: "x", System: "symbolic", First: 1, Symbols: []string{"a"}, Negative: [2]string{"-", ""},
		Suffix: ". ", Auto: true, Fallback: "decimal",
	}
	for _, c := range change {
		c(&d)
	}
	return d
}

// systemOf changes the system and the symbols.
func systemOf(kind string, symbols ...string) func(d *system.Def) {
	return func(d *system.Def) { d.System, d.Symbols = kind, symbols }
}

// said changes what was said.
func said(n int) func(d *system.Def) { return func(d *system.Def) { d.Said = n } }

// same compares two; nil and an empty list are the same.
func same(a, b system.Def) bool {
	for _, d := range []*system.Def{&a, &b} {
		d.Symbols = append([]string{}, d.Symbols...)
		d.Weights = append([]int{}, d.Weights...)
		d.Range = append([][2]int{}, d.Range...)
	}
	return reflect.DeepEqual(a, b)
}

// tells asks Parse for a style.
func tells(t *testing.T, name string, r api.Rule, want system.Def) {
	t.Helper()
	if got, e := define.Parse(r); !same(got, want) || e != api.OK {
		t.Errorf("Parse(%s):\n got %+v, %d\nwant %+v", name, got, e, want)
	}
}

// refuses asks Parse for an error.
func refuses(t *testing.T, name string, r api.Rule, want api.Errno) {
	t.Helper()
	if got, e := define.Parse(r); !reflect.DeepEqual(got, system.Def{}) || e != want {
		t.Errorf("Parse(%s) = %+v, %d, want error %d", name, got, e, want)
	}
}

// The names that mean something, as the chapters have them.
var (
	barred = []string{"none", "initial", "inherit", "unset", "default"}
	kept   = []string{"decimal", "disc", "square", "circle"}
	own    = []string{"decimal-leading-zero", "lower-alpha", "upper-alpha", "lower-roman", "upper-roman", "lower-greek"}
	free   = []string{"x", "Xy", "auto", "Auto", "revert", "revert-layer", "lower-latin", "Upper-Latin", "decimals", "Disc-", "-disc", "discs", "Nones", "armenian", "symbolic", "extends", "important", "--A", "_", "\u00c4", "li\u017f\u00e7", "lower-gree\u212a", "d\u0131sc", "\u0130nherit"}
)

// letters is a text in letters of several kinds.
func letters(s string) []string {
	mixed := ""
	for i := range s {
		if i%2 == 0 {
			mixed += strings.ToUpper(s[i : i+1])
		} else {
			mixed += s[i : i+1]
		}
	}
	return []string{s, strings.ToUpper(s), strings.ToUpper(s[:1]) + s[1:], mixed, fmt.Sprintf("\\%x %s", s[0], s[1:]), fmt.Sprintf("\\%06x%s", s[0]-'a'+'A', s[1:])}
}

// isName asks Name for a text.
func isName(t *testing.T, in string, l []api.Node, want string) {
	t.Helper()
	if got, ok := define.Name(l); got != want || !ok {
		t.Errorf("Name(%s) = %q, %t, want %q", in, got, ok, want)
	}
}

// isNone asks Name for nothing.
func isNone(t *testing.T, in string, l []api.Node) {
	t.Helper()
	if got, ok := define.Name(l); got != "" || ok {
		t.Errorf("Name(%s) = %q, %t, want none", in, got, ok)
	}
}

func TestName(t *testing.T) { // P10.1
	around := func(s string) []string { return []string{s, " " + s, s + "\n", "/**/ /**/\t" + s + " /**/ "} }
	for _, s := range slices.Concat(kept, own) {
		for _, in := range letters(s) {
			for _, in := range around(in) {
				isName(t, in, nodes(in), s)
			}
		}
	}
	for _, s := range barred {
		for _, in := range letters(s) {
			for _, in := range around(in) {
				isNone(t, in, nodes(in))
			}
		}
	}
	for _, s := range free {
		for _, in := range around(s) {
			isName(t, in, nodes(in), s)
		}
	}
	for _, in := range []string{"", " ", "/**/", "a b", "a/**/b", "a,b", "a,", ",a", "a!", "'a'", "\"disc\"", "5", "5x", "#a", "@a", "f()", "disc()", "url(a)", "(a)", "[a]", "{a}", ".", "a;", "a:", "disc disc", "50%"} {
		isNone(t, in, nodes(in))
	}
	isNone(t, "nil", nil)
}

func TestOddNames(t *testing.T) { // P10.1
	for kind := -1; kind <= 21; kind++ {
		n := leaf(api.Token{Kind: kind, Text: "Disc", Int: 3, Whole: true, ID: true})
		in := fmt.Sprintf("kind %d", kind)
		if kind == api.Ident {
			isName(t, in, []api.Node{n}, "disc")
		} else {
			isNone(t, in, []api.Node{n})
		}
		if kind == api.White {
			isName(t, in+" at both ends", []api.Node{n, ident("A"), n}, "A")
		} else {
			isNone(t, in+" ahead", []api.Node{n, ident("A")})
			isNone(t, in+" behind", []api.Node{ident("A"), n})
		}
	}
	isNone(t, "White between", []api.Node{ident("a"), white(), ident("b")})
	isName(t, "a text that is no Ident's", []api.Node{ident("a B\xff ")}, "a B\xff ")
}

func TestSymbol(t *testing.T) { // P10.1
	for kind := -1; kind <= 21; kind++ {
		for _, text := range []string{"", "a", "Inherit", " B\xff", "\u2022"} {
			n := leaf(api.Token{Kind: kind, Text: text, Int: 3, Whole: true, Sign: true, ID: true})
			got, ok := define.Symbol(n)
			want := kind == api.String || kind == api.Ident
			if ok != want || ok && got != text || !ok && got != "" {
				t.Errorf("Symbol(kind %d, %q) = %q, %t", kind, text, got, ok)
			}
		}
	}
	for in, want := range map[string]string{"a": "a", "'b c'": "b c", "\"\"": "", "\\41 b": "Ab", "'\\2022'": "\u2022", "None": "None", "--x": "--x"} {
		if got, ok := define.Symbol(nodes(in)[0]); got != want || !ok {
			t.Errorf("Symbol(%s) = %q, %t, want %q", in, got, ok, want)
		}
	}
	for _, in := range []string{"5", "5x", "5%", "#a", "@a", "f(a)", "url(a)", "(a)", "+", ",", " ", "'a\n", "url(a b)"} {
		if got, ok := define.Symbol(nodes(in)[0]); got != "" || ok {
			t.Errorf("Symbol(%s) = %q, %t, want none", in, got, ok)
		}
	}
	if got, ok := define.Symbol(api.Node{}); got != "" || ok {
		t.Errorf("Symbol of nothing = %q, %t", got, ok)
	}
}

func TestArg(t *testing.T) { // P10.1
	good := rules.Decls(nodes("symbols:a"))
	for _, at := range []string{"", "x", "counter", "counter-styles", " counter-style", "page", "COUNTER-STYLE"} {
		for _, prelude := range []string{"x", "", "none"} {
			refuses(t, at+" "+prelude, api.Rule{At: at, Prelude: nodes(prelude), Block: true, Decls: good}, api.ErrArg)
			refuses(t, at+" "+prelude+" without a block", api.Rule{At: at, Prelude: nodes(prelude), Decls: good}, api.ErrArg)
		}
	}
	for _, prelude := range []string{"x", "", "none"} {
		refuses(t, prelude+" without a block", api.Rule{At: "counter-style", Prelude: nodes(prelude), Decls: good}, api.ErrArg)
	}
	refuses(t, "nothing", api.Rule{}, api.ErrArg)
	for _, c := range []struct {
		in   string
		want api.Errno
	}{
		{"@counter-style x{symbols:a}", api.OK},
		{"@COUNTER-Style x{symbols:a}", api.OK},
		{"@counter-style x{symbols:a", api.OK},
		{"@counter-style x;", api.ErrArg},
		{"@counter-style x", api.ErrArg},
		{"@page x{symbols:a}", api.ErrArg},
		{"x{symbols:a}", api.ErrArg},
		{"@counter-style{symbols:a}", api.ErrBad},
		{"@counter-style x{}", api.ErrBad},
		{"@counter-style x{symbols:5}", api.ErrBad},
		{"@counter-style x y{symbols:a}", api.ErrBad},
	} {
		l, _ := rules.Sheet([]byte(c.in))
		if c.want != api.OK {
			refuses(t, c.in, l[0], c.want)
			continue
		}
		tells(t, c.in, l[0], plain())
	}
}

func TestPrelude(t *testing.T) { // P10.1
	good := rules.Decls(nodes("symbols:a"))
	for _, s := range free {
		tells(t, s, named(s, good...), plain(func(d *system.Def) { d.Name = s }))
		tells(t, "white and "+s, named(" "+s+"\n", good...), plain(func(d *system.Def) { d.Name = s }))
	}
	for _, s := range own {
		for _, in := range letters(s) {
			tells(t, in, named(in, good...), plain(func(d *system.Def) { d.Name = s }))
		}
	}
	for _, s := range slices.Concat(barred, kept) {
		for _, in := range letters(s) {
			refuses(t, in, named(in, good...), api.ErrBad)
			refuses(t, "white and "+in, named("\t"+in+" ", good...), api.ErrBad)
		}
	}
	for _, in := range []string{"", " ", "'x'", "x y", "x,y", "5", "#x", "f(x)", "(x)", "x()"} {
		refuses(t, in, named(in, good...), api.ErrBad)
	}
}

func TestNothingSaid(t *testing.T) { // P10.2
	tells(t, "symbols alone", x("symbols:a"), plain())
	tells(t, "other names", x("symbols:a;odd:x;--symbols:b;speak-as:auto;name:y;first:3;weights:3;said:5;symbol:b;additive:1 a"), plain())
	for _, in := range []string{"", "system:symbolic", "system:cyclic", "negative:a;prefix:b;suffix:c;range:1 2;pad:1 a;fallback:y", "additive-symbols:1 a", "system:cyclic;additive-symbols:1 a"} {
		refuses(t, in, x(in), api.ErrBad)
	}
	for _, name := range []string{"Symbols", "SYMBOLS", "symbols ", "--symbols", ""} {
		refuses(t, name+" by hand", named("x", decl(name, ident("a"))), api.ErrBad)
	}
}

func TestSystem(t *testing.T) { // P10.1 P10.2
	for _, c := range []struct {
		in   string
		want system.Def
	}{
		{"system:cyclic;symbols:a", plain(systemOf("cyclic", "a"))},
		{"system:NUMERIC;symbols:a b", plain(systemOf("numeric", "a", "b"))},
		{"system: Alphabetic ;symbols:a b", plain(systemOf("alphabetic", "a", "b"))},
		{"system:symBolic;symbols:a b c", plain(systemOf("symbolic", "a", "b", "c"))},
		{"system:c\\59 clic!important;symbols:'' 'b c' D", plain(systemOf("cyclic", "", "b c", "D"))},
		{"system:ADDITIVE;additive-symbols:1 a", plain(systemOf("additive", "a"), func(d *system.Def) { d.Weights = []int{1} })},
		{"system:additive;additive-symbols:'x' 10,9 B, 0 ''", plain(systemOf("additive", "x", "B", ""), func(d *system.Def) { d.Weights = []int{10, 9, 0} })},
		{"system:additive;additive-symbols:+3 x , y 2;symbols:5 6", plain(systemOf("additive", "x", "y"), func(d *system.Def) { d.Weights = []int{3, 2} })},
		{"system:additive;additive-symbols:99999999999 x,2147483646 y", plain(systemOf("additive", "x", "y"), func(d *system.Def) { d.Weights = []int{math.MaxInt32, math.MaxInt32 - 1} })},
		{"system:additive;symbols:a b;additive-symbols:-0 z", plain(systemOf("additive", "z"), func(d *system.Def) { d.Weights = []int{0} })},
		{"system:cyclic;additive-symbols:1 z;symbols:a", plain(systemOf("cyclic", "a"))},
		{"system:fixed;symbols:a", plain(systemOf("fixed", "a"))},
		{"system:Fixed;symbols:a b", plain(systemOf("fixed", "a", "b"))},
	} {
		tells(t, c.in, x(c.in), c.want)
	}
	for in, first := range map[string]int{"fixed": 1, "fixed 1": 1, "fixed 0": 0, "FIXED -3": -3, "fixed +7": 7, "fixed/**/7": 7, "fixed  /**/ -0": 0, "fixed 99999999999": math.MaxInt32, "fixed -99999999999": math.MinInt32} {
		tells(t, in, x("symbols:a;system:"+in), plain(systemOf("fixed", "a"), func(d *system.Def) { d.First = first }))
	}
	for _, in := range []string{"fixed 1.0", "fixed 1e0", "fixed 1.5", "fixed 1%", "fixed 1x", "fixed a", "fixed '1'", "fixed - 1", "fixed 1 2", "1 fixed", "fixed,1", "fixed fixed", "fixed()", "fixed(1)", "cyclic 1", "cyclic cyclic", "cyclic,", "numeric a", "symbolic!", "'cyclic'", "#cyclic", "cyclic()", "cyclicx", "decimal", "none", "inherit", "auto", "1", "(cyclic)", "cycl\u0131c", "additive 1", "extend y"} {
		tells(t, in, x("symbols:a;system:"+in), plain())
		tells(t, "cyclic, then "+in, x("symbols:a;system:cyclic;system:"+in), plain(systemOf("cyclic", "a")))
	}
}

func TestExtends(t *testing.T) { // P10.1 P10.2
	extending := func(of string) system.Def {
		return plain(systemOf("extends"), func(d *system.Def) { d.Extends = of })
	}
	for in, of := range map[string]string{"extends y": "y", "Extends Y": "Y", "EXTENDS  Disc": "disc", "extends/**/x": "x", "extends lower-ROMAN": "lower-roman", "extends extends": "extends", "extends auto": "auto", "extends Cyclic": "Cyclic"} {
		tells(t, in, x("system:"+in), extending(of))
		tells(t, in+" of cyclic", x("system:fixed 3;system:"+in), extending(of))
		refuses(t, in+" with symbols", x("symbols:a;system:"+in), api.ErrBad)
		refuses(t, in+" with symbols behind", x("system:"+in+";symbols:a b"), api.ErrBad)
		refuses(t, in+" with additive-symbols", x("additive-symbols:1 a;system:"+in), api.ErrBad)
		refuses(t, in+" with both", x("system:"+in+";additive-symbols:0 a;symbols:''"), api.ErrBad)
		tells(t, in+" with such as may not be", x("symbols:5;additive-symbols:-1 a;system:"+in+";symbols:a,b;additive-symbols:1 a,"), extending(of))
		tells(t, in+" then cyclic", x("symbols:a;system:"+in+";system:cyclic"), plain(systemOf("cyclic", "a")))
		tells(t, in+" then fixed", x("symbols:a;system:"+in+";system:fixed 5"), plain(systemOf("fixed", "a"), func(d *system.Def) { d.First = 5 }))
	}
	for _, in := range []string{"extends", "extends none", "extends Initial", "extends inherit", "extends UNSET", "extends default", "extends 'y'", "extends 5", "extends y z", "extends,y", "extends y,", "extends()", "extends(y)", "y extends", "extends f()"} {
		tells(t, in, x("symbols:a;system:"+in), plain())
		refuses(t, in+" alone", x("system:"+in), api.ErrBad)
		tells(t, "y, then "+in, x("system:extends y;system:"+in), extending("y"))
	}
	d := plain(systemOf("extends"), said(63), func(d *system.Def) {
		d.Extends, d.Negative, d.Prefix, d.Suffix, d.Auto = "y", [2]string{"m", "n"}, "p", "s", false
		d.Range, d.Pad, d.PadSign, d.Fallback = [][2]int{{1, 2}}, 3, "0", "z"
	})
	tells(t, "extends with all others", x("system:extends y;negative:m n;prefix:p;suffix:s;range:1 2;pad:3 '0';fallback:z"), d)
}

// descriptors are all that Said tells of; each has its bit, some that may be, and some that may not.
var descriptors = []struct {
	name  string
	bit   int
	may   map[string]func(d *system.Def)
	wrong string
}{
	{"negative", 1, map[string]func(d *system.Def){
		"m":             func(d *system.Def) { d.Negative = [2]string{"m", ""} },
		"'(' ')'":       func(d *system.Def) { d.Negative = [2]string{"(", ")"} },
		"'('\"\"":       func(d *system.Def) { d.Negative = [2]string{"(", ""} },
		" A  'b' ":      func(d *system.Def) { d.Negative = [2]string{"A", "b"} },
		"''/**/none":    func(d *system.Def) { d.Negative = [2]string{"", "none"} },
		"'-'!important": func(d *system.Def) { d.Negative = [2]string{"-", ""} },
	}, "5|a 5|5 a|a b c|a,b|f()|(a)|#a|a b,|-|+ a"},
	{"prefix", 2, map[string]func(d *system.Def){
		"p":       func(d *system.Def) { d.Prefix = "p" },
		"''":      func(d *system.Def) { d.Prefix = "" },
		" Auto ":  func(d *system.Def) { d.Prefix = "Auto" },
		"'a b'":   func(d *system.Def) { d.Prefix = "a b" },
		"inherit": func(d *system.Def) { d.Prefix = "inherit" },
	}, "5|a b|'a' 'b'|a,|f()|(a)|#a|url(a)|+"},
	{"suffix", 4, map[string]func(d *system.Def){
		"p":         func(d *system.Def) { d.Suffix = "p" },
		"''":        func(d *system.Def) { d.Suffix = "" },
		"\". \"":    func(d *system.Def) { d.Suffix = ". " },
		"\\2022":    func(d *system.Def) { d.Suffix = "\u2022" },
		"'\\2022 '": func(d *system.Def) { d.Suffix = "\u2022" },
	}, "5|a b|'a' 'b'|,a|f()|[a]|#a|.|1x"},
	{"range", 8, map[string]func(d *system.Def){
		"auto":                     func(d *system.Def) { d.Auto, d.Range = true, nil },
		" AUTO ":                   func(d *system.Def) { d.Auto, d.Range = true, nil },
		"1 5":                      func(d *system.Def) { d.Auto, d.Range = false, [][2]int{{1, 5}} },
		"-5-1":                     func(d *system.Def) { d.Auto, d.Range = false, [][2]int{{-5, -1}} },
		"3 3":                      func(d *system.Def) { d.Auto, d.Range = false, [][2]int{{3, 3}} },
		"-0 +0":                    func(d *system.Def) { d.Auto, d.Range = false, [][2]int{{0, 0}} },
		"infinite infinite":        func(d *system.Def) { d.Auto, d.Range = false, [][2]int{{math.MinInt32, math.MaxInt32}} },
		"Infinite -2 , 7 INFINITE": func(d *system.Def) { d.Auto, d.Range = false, [][2]int{{math.MinInt32, -2}, {7, math.MaxInt32}} },
		"5 9,1 6,5 9":              func(d *system.Def) { d.Auto, d.Range = false, [][2]int{{5, 9}, {1, 6}, {5, 9}} },
		"-99999999999 99999999999": func(d *system.Def) { d.Auto, d.Range = false, [][2]int{{math.MinInt32, math.MaxInt32}} },
		"infinite -99999999999":    func(d *system.Def) { d.Auto, d.Range = false, [][2]int{{math.MinInt32, math.MinInt32}} },
		"99999999999 infinite":     func(d *system.Def) { d.Auto, d.Range = false, [][2]int{{math.MaxInt32, math.MaxInt32}} },
		strings.Repeat("1 2,", 40) + "2\t3": func(d *system.Def) {
			d.Auto, d.Range = false, append(slices.Repeat([][2]int{{1, 2}}, 40), [2]int{2, 3})
		},
	}, "5 1|1|1 2 3|,1 2|1 2,|1 2,,3 4|1 2,4 3|4 3,1 2|infinite|1 2,infinite|1.5 2|1 2.0|1 2e0|1 2%|1 2x|1 a|a 1|1 auto|auto 1|auto auto|auto,1 2|1 2,auto|'auto'|1 '2'|1 'infinite'|1,2|(1 2)|1 - 2|f()|auto()|1 -infinite|none|inherit"},
	{"pad", 16, map[string]func(d *system.Def){
		"3 '0'":      func(d *system.Def) { d.Pad, d.PadSign = 3, "0" },
		"x 2":        func(d *system.Def) { d.Pad, d.PadSign = 2, "x" },
		"'ab'+7":     func(d *system.Def) { d.Pad, d.PadSign = 7, "ab" },
		"0 B":        func(d *system.Def) { d.Pad, d.PadSign = 0, "B" },
		"-0 ''":      func(d *system.Def) { d.Pad, d.PadSign = 0, "" },
		"  200/**/y": func(d *system.Def) { d.Pad, d.PadSign = 200, "y" },
	}, "3|x|'0'|-1 x|x -1|x -99999999999|3 x y|x 3 y|3 3|3 4 x|x y|x,3|3,x|3 x,|1.5 x|3.0 x|3e0 x|3% x|3y x|3 f()|3 #a|(3 x)|3 - x"},
	{"fallback", 32, map[string]func(d *system.Def){
		"y":           func(d *system.Def) { d.Fallback = "y" },
		"Zz":          func(d *system.Def) { d.Fallback = "Zz" },
		" x ":         func(d *system.Def) { d.Fallback = "x" },
		"lower-ROMAN": func(d *system.Def) { d.Fallback = "lower-roman" },
		"DISC":        func(d *system.Def) { d.Fallback = "disc" },
		"Decimal":     func(d *system.Def) { d.Fallback = "decimal" },
		"auto":        func(d *system.Def) { d.Fallback = "auto" },
	}, "none|Initial|INHERIT|unset|default|'y'|5|y z|y,z|y,|f()|(y)|#y"},
}

func TestDescriptors(t *testing.T) { // P10.1
	for _, c := range descriptors {
		for in, change := range c.may {
			one := c.name + ":" + in
			tells(t, one, x(one+";symbols:a"), plain(change, said(c.bit)))
			tells(t, one+" in great letters", x(strings.ToUpper(c.name)+":"+in+";symbols:a"), plain(change, said(c.bit)))
			for _, wrong := range strings.Split(c.wrong, "|") {
				two := c.name + ":" + wrong
				tells(t, two+";"+one, x("symbols:a;"+two+";"+one), plain(change, said(c.bit)))
				tells(t, one+";"+two, x("symbols:a;"+one+";"+two), plain(change, said(c.bit)))
			}
			for in, last := range c.may {
				two := c.name + ":" + in
				tells(t, one+";"+two, x(one+";symbols:a;"+two), plain(last, said(c.bit)))
			}
		}
		for _, wrong := range strings.Split(c.wrong, "|") {
			tells(t, c.name+":"+wrong, x("symbols:a;"+c.name+":"+wrong), plain())
		}
		tells(t, "an empty "+c.name, named("x", decl("symbols", ident("a")), decl(c.name)), plain())
		tells(t, "a white "+c.name, named("x", decl("symbols", ident("a")), decl(c.name, white(), white())), plain())
	}
}

func TestSaid(t *testing.T) { // P10.2
	for set := range 64 {
		text, sum := "", 0
		for i, c := range descriptors {
			wrong, _, _ := strings.Cut(c.wrong, "|")
			if set&(1<<i) != 0 {
				for in := range c.may {
					text += c.name + ":" + in + ";"
				}
				sum += c.bit
			}
			text += c.name + ":" + wrong + ";"
		}
		d, e := define.Parse(x(text + "symbols:a"))
		if d.Said != sum || e != api.OK {
			t.Errorf("Parse(%s).Said = %d, %d, want %d", text, d.Said, e, sum)
		}
	}
}

func TestSymbols(t *testing.T) { // P10.1
	ab := plain(systemOf("symbolic", "a", "b c"))
	wrong := strings.Split("5|a 5|5 a|a,b|a,|a f()|(a)|#a|a . b|url(a)|a url(b)|a 'b'!", "|")
	for _, in := range []string{"a 'b c'", "a'b c'", " a  /**/ \"b c\" ", "a'b c'!important"} {
		tells(t, in, x("symbols:"+in), ab)
		tells(t, "x y then "+in, x("symbols:x y;symbols:"+in), ab)
		for _, w := range wrong {
			tells(t, w+" then "+in, x("symbols:"+w+";symbols:"+in), ab)
			tells(t, in+" then "+w, x("symbols:"+in+";symbols:"+w), ab)
		}
		tells(t, in+" then nothing", named("x", append(rules.Decls(nodes("symbols:"+in)), decl("symbols"), decl("symbols", white()))...), ab)
	}
	for _, w := range wrong {
		refuses(t, w, x("symbols:"+w), api.ErrBad)
	}
	refuses(t, "no symbols", named("x", decl("symbols")), api.ErrBad)
}

func TestAdditiveSymbols(t *testing.T) { // P10.1
	want := plain(systemOf("additive", "v", "i"), func(d *system.Def) { d.Weights = []int{5, 1} })
	wrong := strings.Split("-1 x|x -1|1|x|1 2|x y|1 x,|,1 x|1 x,,0 y|1 x,2 y|1 x,1 y|3 x,2 y,2 z|3 x,1 y,2 z|0 x,0 y|0 x,-1 y|1 x y|1 2 x|1.5 x|1.0 x|1e0 x|1% x|1y x|1 #x|1 f()|(1 x)|1 x,y|1 x;|1 - x", "|")
	for _, in := range []string{"5 v,1 i", "v 5,i 1", "5 v , i 1", "'v'5,+1'i'"} {
		in = "additive-symbols:" + in
		tells(t, in, x("system:additive;"+in), want)
		tells(t, in+" ahead", x(in+";system:additive"), want)
		tells(t, in+" behind others", x("system:additive;additive-symbols:7 x,6 y,5 z;"+in), want)
		for _, w := range wrong[:len(wrong)-2] {
			tells(t, in+" then "+w, x("system:additive;"+in+";additive-symbols:"+w), want)
			tells(t, w+" then "+in, x("system:additive;additive-symbols:"+w+";"+in), want)
		}
	}
	for _, w := range wrong {
		if w != "1 x;" {
			refuses(t, w, x("system:additive;symbols:a;additive-symbols:"+w), api.ErrBad)
		}
	}
	refuses(t, "no additive-symbols", x("system:additive;symbols:a b"), api.ErrBad)
	refuses(t, "an empty one", named("x", decl("system", ident("additive")), decl("additive-symbols")), api.ErrBad)
}

func TestMay(t *testing.T) { // P10.2
	for n := range 67 {
		many := strings.Repeat("a ", n)
		for kind, least := range map[string]int{"cyclic": 1, "symbolic": 1, "fixed": 1, "fixed 3": 1, "numeric": 2, "alphabetic": 2} {
			r := x("system:" + kind + ";symbols:" + many)
			if n < least || n > 64 {
				refuses(t, fmt.Sprintf("%s of %d", kind, n), r, api.ErrBad)
			} else if d, e := define.Parse(r); e != api.OK || len(d.Symbols) != n {
				t.Errorf("%s of %d: %v, %d", kind, n, d.Symbols, e)
			}
		}
		var added []string
		for i := range n {
			added = append(added, fmt.Sprint(n-i, " a"))
		}
		r := x("system:additive;additive-symbols:" + strings.Join(added, ","))
		if n == 0 || n > 64 {
			refuses(t, fmt.Sprintf("additive of %d", n), r, api.ErrBad)
		} else if d, e := define.Parse(r); e != api.OK || len(d.Symbols) != n || len(d.Weights) != n {
			t.Errorf("additive of %d: %v, %v, %d", n, d.Symbols, d.Weights, e)
		}
	}
	long := strings.Repeat("l", 100)
	for _, in := range []string{"symbols:a L", "symbols:a;prefix:L", "symbols:a;suffix:L", "symbols:a;negative:L", "symbols:a;negative:a L", "symbols:a;pad:3 L", "system:additive;additive-symbols:1 L", "system:extends y;prefix:L"} {
		short, _ := define.Parse(x(strings.ReplaceAll(in, "L", long)))
		if short.Name != "x" {
			t.Errorf("%s of 100 bytes is refused", in)
		}
		refuses(t, in+" of 101 bytes", x(strings.ReplaceAll(in, "L", long+"l")), api.ErrBad)
		refuses(t, in+" of 101 bytes of 51 signs", x(strings.ReplaceAll(in, "L", "l"+strings.Repeat("\u00e4", 50))), api.ErrBad)
	}
	tells(t, "pad 200", x("symbols:a;pad:200 x"), plain(said(16), func(d *system.Def) { d.Pad, d.PadSign = 200, "x" }))
	refuses(t, "pad 201", x("symbols:a;pad:201 x"), api.ErrBad)
	refuses(t, "pad 200, then 201", x("symbols:a;pad:200 x;pad:201 x"), api.ErrBad)
	tells(t, "pad 201, then 7", x("symbols:a;pad:201 x;pad:7 y"), plain(said(16), func(d *system.Def) { d.Pad, d.PadSign = 7, "y" }))
	tells(t, "a long prefix, then a short one", x("symbols:a;prefix:"+long+"l;prefix:b"), plain(said(2), func(d *system.Def) { d.Prefix = "b" }))
	tells(t, "symbols that do not count", x("symbols:a;additive-symbols:1 "+long+"l"), plain())
	tells(t, "long names", x("symbols:a;fallback:"+long+long), plain(said(32), func(d *system.Def) { d.Fallback = long + long }))
}

func TestOddNodes(t *testing.T) { // P10.1 P10.2
	with := func(n api.Node) api.Node {
		n.Kids = nodes("'k' 5")
		return n
	}
	far := 1 << 40
	tells(t, "nodes with kids", named("x", decl("symbols", with(ident("a"))), decl("pad", with(whole(3)), with(white()), with(quoted("0")))),
		plain(said(16), func(d *system.Def) { d.Pad, d.PadSign = 3, "0" }))
	refuses(t, "a bound above 32 digits", named("x", decl("symbols", ident("a")), decl("range", whole(1), whole(far))), api.ErrBad)
	refuses(t, "a bound below 32 digits", named("x", decl("symbols", ident("a")), decl("range", whole(-far), whole(1))), api.ErrBad)
	refuses(t, "a pad of many digits", named("x", decl("symbols", ident("a")), decl("pad", whole(math.MaxInt), ident("x"))), api.ErrBad)
	tells(t, "a pad far below 0", named("x", decl("symbols", ident("a")), decl("pad", whole(math.MinInt), ident("x"))), plain())
	tells(t, "a number with a text", named("x", decl("symbols", ident("a")), decl("pad", leaf(api.Token{Kind: api.Number, Text: "t", Int: 2, Whole: true}), ident("x"))),
		plain(said(16), func(d *system.Def) { d.Pad, d.PadSign = 2, "x" }))
	for kind := -1; kind <= 21; kind++ {
		odd := leaf(api.Token{Kind: kind, Text: "auto", Int: 3})
		r := named("x", decl("symbols", ident("a")), decl("range", odd), decl("range", odd, odd), decl("system", odd), decl("system", ident("fixed"), odd), decl("pad", odd, odd))
		d, e := define.Parse(r)
		heard := kind == api.Ident
		fixed := kind == api.White // it parts nothing, and is left out
		if e != api.OK || d.Said != map[bool]int{true: 8}[heard] || (d.System == "fixed") != fixed {
			t.Errorf("kind %d: %+v, %d", kind, d, e)
		}
	}
	refuses(t, "a kind that is none", named("x", decl("symbols", leaf(api.Token{Kind: 99, Text: "a"}))), api.ErrBad)
	tells(t, "no signs", named("x", decl("symbols", quoted("\xff\x00"))), plain(systemOf("symbolic", "\xff\x00")))
}
