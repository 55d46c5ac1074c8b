package rules_test

import (
	"bytes"
	"math/rand"
	"runtime/debug"
	"strings"
	"testing"

	"fleuron/api"
	"fleuron/nest"
	"fleuron/points"
	"fleuron/rules"
	"fleuron/token"
)

// nodes is a text's.
func nodes(s string) []api.Node { return nest.All(token.All(points.Read([]byte(s)))) }

// leaf is a node that is a token alone.
func leaf(kind int, text string) api.Node {
	return api.Node{Token: api.Token{Kind: kind, Text: text}}
}

// list is nodes.
func list(l ...api.Node) []api.Node { return l }

// said is a declaration.
func said(name, value string) api.Decl { return api.Decl{Name: name, Value: nodes(value)} }

// loud is one that is important.
func loud(name, value string) api.Decl {
	return api.Decl{Name: name, Value: nodes(value), Important: true}
}

// decls is declarations.
func decls(l ...api.Decl) []api.Decl { return l }

// rule is one with selectors.
func rule(prelude string, l ...api.Decl) api.Rule {
	return api.Rule{Prelude: nodes(prelude), Block: true, Decls: l}
}

// at is an at rule with a block.
func at(name, prelude string, l ...api.Decl) api.Rule {
	return api.Rule{At: name, Prelude: nodes(prelude), Block: true, Decls: l}
}

// bare is an at rule without one.
func bare(name, prelude string) api.Rule { return api.Rule{At: name, Prelude: nodes(prelude)} }

func sameDecls(a, b []api.Decl) bool {
	if len(a) != len(b) {
		return false
	}
	for i := range a {
		if a[i].Name != b[i].Name || a[i].Important != b[i].Important || !nest.Same(a[i].Value, b[i].Value) {
			return false
		}
	}
	return true
}

func sameRules(a, b []api.Rule) bool {
	if len(a) != len(b) {
		return false
	}
	for i := range a {
		if a[i].At != b[i].At || a[i].Block != b[i].Block || !nest.Same(a[i].Prelude, b[i].Prelude) || !sameDecls(a[i].Decls, b[i].Decls) {
			return false
		}
	}
	return true
}

// sheet is what is told of one, as it should be.
type sheet struct {
	in   string
	want []api.Rule
}

func checkSheets(t *testing.T, all []sheet) {
	t.Helper()
	for _, c := range all {
		got, e := rules.Sheet([]byte(c.in))
		if e != api.OK || !sameRules(got, c.want) {
			t.Errorf("Sheet(%q):\n got %v, %d\nwant %v", c.in, got, e, c.want)
		}
	}
}

// all is rules.
func all(l ...api.Rule) []api.Rule { return l }

func TestRules(t *testing.T) { // P4.1
	cd := said("c", "d")
	checkSheets(t, []sheet{
		{"", nil},
		{" \n/**/ ", nil},
		{";;", nil},
		{"<!-- --> <!----> ; /**/-->", nil},
		{"a{b:1;c}", all(rule("a", said("b", "1")))},
		{"a{}", all(rule("a"))},
		{"a , b\n{c:d}", all(rule("a , b", cd))},
		{" /**/ a > #b.c:d::e [f] /**/ {c:d}", all(rule("a > #b.c:d::e [f]", cd))},
		{" <!-- a{} --> b{};c{} ; <!-- d{}", all(rule("a"), rule("b"), rule("c"), rule("d"))},
		{"a{c:d}b{c:d;e:f}", all(rule("a", cd), rule("b", cd, said("e", "f")))},
		{"a{c:d}{e:f}", all(rule("a", cd), rule("", said("e", "f")))},
		{"{}", all(rule(""))},
		{" {c:d} ", all(rule("", cd))},
		{"(a;{b})[{;}]f({};){c:d}", all(rule("(a;{b})[{;}]f({};)", cd))},
		{"a;b{c:d}", all(rule("a;b", cd))},
		{"a ; {c:d}", all(rule("a ;", cd))},
		{"a <!-- b --> {c:d}", all(rule("a <!-- b -->", cd))},
		{"a @b{c:d}", all(rule("a @b", cd))},
		{"a @b;{c:d}", all(rule("a @b;", cd))},
		{"} a{c:d}", all(rule("} a", cd))},
		{"){c:d}", all(rule(")", cd))},
		{"a{c:d}}b{}", all(rule("a", cd), rule("}b"))},
		{"!{c:d}", all(rule("!", cd))},
		{"@1{c:d}", all(rule("@1", cd))},
		{"@ a{c:d}", all(rule("@ a", cd))},
		{"'x\ny{c:d}", all(rule("'x\ny", cd))},
		{"\ufeffa\r\n{c:d}", all(rule("a", cd))},
	})
}

func TestRulesWithoutEnd(t *testing.T) { // P4.1
	cd := said("c", "d")
	checkSheets(t, []sheet{
		{"a", nil},
		{"a b;", nil},
		{"a;b;c", nil},
		{"a @b;", nil},
		{"a{c:d}b", all(rule("a", cd))},
		{"@x;a", all(bare("x", ""))},
		{"a[{]{c:d}", nil},
		{"f(a{c:d}", nil},
		{"'{c:d}", nil},
		{"a{c:d", all(rule("a", cd))},
		{"a{", all(rule("a"))},
		{"a{c:d;e:f(g", all(rule("a", cd, said("e", "f(g)")))},
		{"a{c:d)e;f:g", all(rule("a", said("f", "g")))},
		{"a{c:[d}b{e:f}", all(rule("a", said("c", "[d}b{e:f}")))},
		{"@a{c:d", all(at("a", "", cd))},
	})
}

func TestAtRules(t *testing.T) { // P4.1
	cd := said("c", "d")
	checkSheets(t, []sheet{
		{"@x", all(bare("x", ""))},
		{"@x;", all(bare("x", ""))},
		{"@x ;", all(bare("x", ""))},
		{"@x y", all(bare("x", "y"))},
		{"@x  y  z ;", all(bare("x", "y  z"))},
		{"@x{}", all(at("x", ""))},
		{"@x y {c:d}", all(at("x", "y", cd))},
		{"@Media x { c:d }", all(at("media", "x", cd))},
		{"@IMPORT \"A\" B;", all(bare("import", "\"A\" B"))},
		{"@-X\u00c4_;", all(bare("-x\u00c4_", ""))},
		{"@\\41 b;", all(bare("ab", ""))},
		{"@x;a{c:d}", all(bare("x", ""), rule("a", cd))},
		{"@x a{c:d}b{c:d}", all(at("x", "a", cd), rule("b", cd))},
		{"@x y;{c:d}", all(bare("x", "y"), rule("", cd))},
		{"@x{c:d};@y", all(at("x", "", cd), bare("y", ""))},
		{"@x{c:d}{e:f}", all(at("x", "", cd), rule("", said("e", "f")))},
		{"@x (a;b)[{c}]f({;});d{c:d}", all(bare("x", "(a;b)[{c}]f({;})"), rule("d", cd))},
		{"@x @y{c:d}", all(at("x", "@y", cd))},
		{"@x @y;@z", all(bare("x", "@y"), bare("z", ""))},
		{"@x <!-- y -->;", all(bare("x", "<!-- y -->"))},
		{"@x } y;", all(bare("x", "} y"))},
		{"@x{a{c:d}}", all(at("x", ""))},
		{"@x{a{c:d} e:f;c:d}b{}", all(at("x", "", cd), rule("b"))},
		{"@x{@y{a:b}c:d}", all(at("x", "", cd))},
		{"<!--@x;-->@y", all(bare("x", ""), bare("y", ""))},
	})
}

func TestDeepSheets(t *testing.T) { // P4.1
	around := func(k int, s string) string { return strings.Repeat("(", k) + s + strings.Repeat(")", k) }
	for _, k := range []int{1, 30, 31, 32, 50, 30000} {
		in := "a{c:" + around(k, "d") + "}b{e:f}"
		got, e := rules.Sheet([]byte(in))
		if e != api.OK || len(got) != 2 || len(got[0].Decls) != 1 || !sameRules(got[1:], all(rule("b", said("e", "f")))) {
			t.Fatalf("%d deep: %v, %d", k, got, e)
		}
		if deep, want := nest.Deep(got[0].Decls[0].Value), min(k+1, api.MaxDeep-1); deep != want {
			t.Errorf("%d deep: a value %d deep, want %d", k, deep, want)
		}
	}
}

func TestSheetsTooBig(t *testing.T) { // P4.1
	fill := func(s string, size int) string { return s + strings.Repeat(" ", size-len(s)) }
	for _, c := range []struct {
		name string
		in   string
		want int // rules; below 0 of ErrBig
	}{
		{"the most bytes", fill("a{}", 65536), 1},
		{"a byte more", fill("a{}", 65537), -1},
		{"a byte more, without rules", fill("", 65537), -1},
		{"much more", fill("a{}", 1<<20), -1},
		{"the most bytes, of fewer signs", fill(strings.Repeat("\u20ac", 20000)+"{}", 65536), 1},
		{"more bytes, of fewer signs", strings.Repeat("\u20ac", 21846), -1},
		{"more bytes, by the mark", fill("\ufeffa{}", 65537), -1},
		{"more bytes, by lines' ends", strings.Repeat("\r\n", 32769), -1},
		{"the most rules", strings.Repeat("a{}", 500), 500},
		{"a rule more", strings.Repeat("a{}", 501), -1},
		{"the most at rules", strings.Repeat("@x;", 500), 500},
		{"an at rule more", strings.Repeat("@x;", 501), -1},
		{"an at rule more, to the end", strings.Repeat("a{}", 500) + "@x", -1},
		{"of both", strings.Repeat("a{}@x{}", 250), 500},
		{"of both, one more", strings.Repeat("a{}@x{}", 250) + ";@y;", -1},
		{"what is none counts nothing", strings.Repeat("a{};<!--", 500) + " b", 500},
		{"what is within counts nothing", strings.Repeat("a{b{}@c{}}", 500), 500},
		{"far more rules", strings.Repeat("a{}", 20000), -1},
		{"as many rules as bytes allow", strings.Repeat("{}", 32768), -1},
	} {
		got, e := rules.Sheet([]byte(c.in))
		switch {
		case c.want < 0:
			if e != api.ErrBig || len(got) != 0 {
				t.Errorf("%s: %d rules, error %d", c.name, len(got), e)
			}
		case e != api.OK || len(got) != c.want:
			t.Errorf("%s: %d rules, error %d", c.name, len(got), e)
		}
	}
}

// told is what is told of declarations, as it should be.
type told struct {
	in   string
	want []api.Decl
}

func checkDecls(t *testing.T, all []told) {
	t.Helper()
	for _, c := range all {
		if got := rules.Decls(nodes(c.in)); !sameDecls(got, c.want) {
			t.Errorf("Decls(%q):\n got %v\nwant %v", c.in, got, c.want)
		}
	}
}

func TestDecls(t *testing.T) { // P4.2
	ab, cd := said("a", "b"), said("c", "d")
	checkDecls(t, []told{
		{"", nil},
		{" ;; /**/ ; ", nil},
		{"a:b", decls(ab)},
		{"a:b;", decls(ab)},
		{" ; a:b ;; c:d ; ", decls(ab, cd)},
		{"a \t: b ;c\n:\nd", decls(ab, cd)},
		{"a/**/:/**/b", decls(ab)},
		{"a /**/ /**/ : /**/ b /**/ ", decls(ab)},
		{"a:b;a:b;a:c", decls(ab, ab, said("a", "c"))},
		{"a:b c , d", decls(said("a", "b c , d"))},
		{"a:b:c", decls(said("a", "b:c"))},
		{"a::b", decls(said("a", ":b"))},
		{"a:1 +2px 50% #h 'x' url(y) <!-- -->", decls(said("a", "1 +2px 50% #h 'x' url(y) <!-- -->"))},
		{"a:@b c", decls(said("a", "@b c"))},
		{"a:(b;c){d;e}[f;g]h(i;j);c:d", decls(said("a", "(b;c){d;e}[f;g]h(i;j)"), cd)},
		{"a:{b:c}d", decls(said("a", "{b:c}d"))},
		{"Counter-RESET:B", decls(said("counter-reset", "B"))},
		{"\u00c4B_\\43 :b", decls(said("\u00c4b_c", "b"))},
		{"-A:b", decls(said("-a", "b"))},
		{"--A:b;--:c;---B:d", decls(said("--A", "b"), said("--", "c"), said("---B", "d"))},
		{"\\2d\\2d A:b", decls(said("--A", "b"))},
	})
}

func TestDeclsThatAreNone(t *testing.T) { // P4.2
	cd := said("c", "d")
	checkDecls(t, []told{
		{"a", nil},
		{"a b:x;c:d", decls(cd)},
		{"a;c:d", decls(cd)},
		{"a ;c:d", decls(cd)},
		{"a /**/ ;c:d", decls(cd)},
		{"a b;c:d", decls(cd)},
		{"a,b:x;c:d", decls(cd)},
		{":a;c:d", decls(cd)},
		{"1:2;c:d", decls(cd)},
		{"1px:2;c:d", decls(cd)},
		{"'a':b;c:d", decls(cd)},
		{"#a:b;c:d", decls(cd)},
		{"*a:b;c:d", decls(cd)},
		{"f(a):b;c:d", decls(cd)},
		{"a f(b):x;c:d", decls(cd)},
		{"(a:b);c:d", decls(cd)},
		{"{a:b}c:d", nil},
		{"{a:b};c:d", decls(cd)},
		{"e{a:b}f:g;c:d", decls(cd)},
		{"} a:b;c:d", decls(cd)},
		{"<!-- a:b;c:d", decls(cd)},
		{"! a:b;c:d", decls(cd)},
	})
}

func TestDeclsLeftOut(t *testing.T) { // P4.2
	cd := said("c", "d")
	checkDecls(t, []told{
		{"a:", nil},
		{"a: ;c:d", decls(cd)},
		{"a:;c:d", decls(cd)},
		{"a:/**/;c:d", decls(cd)},
		{"--a: ;c:d", decls(cd)},
		{"a:!important;c:d", decls(cd)},
		{"a: ! important ;c:d", decls(cd)},
		{"a:'x\n;c:d", decls(cd)},
		{"a:b 'x\n y;c:d", decls(cd)},
		{"a:url(x y);c:d", decls(cd)},
		{"a:b};c:d", decls(cd)},
		{"a:b);c:d", decls(cd)},
		{"a:];c:d", decls(cd)},
		{"a:b!;c:d", decls(cd)},
		{"a:!b;c:d", decls(cd)},
		{"a:b!x;c:d", decls(cd)},
		{"a:b!important e;c:d", decls(cd)},
		{"a:b!important!important;c:d", decls(cd)},
		{"a:b!!important;c:d", decls(cd)},
		{"--a:b!;c:d", decls(cd)},
		{"a:b!'important';c:d", decls(cd)},
		{"a:b!important();c:d", decls(cd)},
	})
	checkDecls(t, []told{ // within it may be
		{"a:f(!);c:d", decls(said("a", "f(!)"), cd)},
		{"a:(])[)]{!};c:d", decls(said("a", "(])[)]{!}"), cd)},
		{"a:f('x\n);c:d", decls(said("a", "f('x\n)"), cd)},
		{"a:(url(x y));c:d", decls(said("a", "(url(x y))"), cd)},
		{"a:(b!important);c:d", decls(said("a", "(b!important)"), cd)},
		{"a:'!';c:d", decls(said("a", "'!'"), cd)},
	})
}

func TestAtWordsInDecls(t *testing.T) { // P4.2
	ab, cd := said("a", "b"), said("c", "d")
	checkDecls(t, []told{
		{"@x", nil},
		{"@x y", nil},
		{"@x a:b", nil},
		{"@x;a:b", decls(ab)},
		{"@x y:z;a:b", decls(ab)},
		{"@x{y:z}a:b", decls(ab)},
		{"@x y {y:z} a:b;c:d", decls(ab, cd)},
		{"@x y {y:z};a:b", decls(ab)},
		{"@x (y;z)[{y}]f(;) a:b;c:d", decls(cd)},
		{"@x @y;a:b", decls(ab)},
		{"@x{}@y{}a:b", decls(ab)},
		{"@x } y;a:b", decls(ab)},
		{"a:b;@x y;c:d", decls(ab, cd)},
		{"@x;{a:b}c:d", nil},
		{"a:b @x{y:z}c;c:d", decls(said("a", "b @x{y:z}c"), cd)},
	})
}

func TestImportant(t *testing.T) { // P4.2
	ab := loud("a", "b")
	checkDecls(t, []told{
		{"a:b!important", decls(ab)},
		{"a:b !important ;", decls(ab)},
		{"a: b ! /**/ IMPORTANT /**/ ;a:b", decls(ab, said("a", "b"))},
		{"a:b!\\49mportant", decls(ab)},
		{"--A:b!important", decls(loud("--A", "b"))},
		{"a:{b}!important", decls(loud("a", "{b}"))},
		{"a:b important", decls(said("a", "b important"))},
		{"a:important", decls(said("a", "important"))},
	})
	for _, c := range []struct {
		in, want  string
		important bool
	}{
		{"", "", false},
		{"  ", "", false},
		{" a  b ", "a  b", false},
		{"a!important", "a", true},
		{" a ! important ", "a", true},
		{" a /**/ ! /**/ /**/ ImPortanT /**/ ", "a", true},
		{"a b , c!important", "a b , c", true},
		{"!important", "", true},
		{" ! important ", "", true},
		{"important", "important", false},
		{"a important", "a important", false},
		{"!", "!", false},
		{"a!", "a!", false},
		{"! x", "! x", false},
		{"a!important b", "a!important b", false},
		{"a!important!important", "a!important", true},
		{"a!important,", "a!important,", false},
		{"a!'important'", "a!'important'", false},
		{"a'!'important", "a'!'important", false},
		{"a!important(b)", "a!important(b)", false},
		{"a!#important", "a!#important", false},
		{"a!\u0131mportant", "a!\u0131mportant", false},
		{"(a!important)", "(a!important)", false},
		{"a?important", "a?important", false},
		{"!(important)", "!(important)", false},
	} {
		v, important := rules.Value(nodes(c.in))
		if !nest.Same(v, nodes(c.want)) || important != c.important {
			t.Errorf("Value(%q) = %v, %v", c.in, v, important)
		}
	}
	if v, important := rules.Value(nil); len(v) != 0 || important {
		t.Errorf("Value(nil) = %v, %v", v, important)
	}
}

func TestOddNodes(t *testing.T) { // P4.2
	kids := list(leaf(api.Ident, "k"))
	full := func(kind int, text string) api.Node {
		return api.Node{Token: api.Token{Kind: kind, Text: text, Int: 7, ID: true}, Kids: kids}
	}
	name, colon, b, semicolon := full(api.Ident, "A"), full(api.Colon, ":"), full(api.Ident, "b"), full(api.Semicolon, "x")
	for i, c := range []struct{ in, want []api.Node }{
		{list(name, colon, b), list(b)},
		{list(name, full(api.White, "w"), colon, full(api.White, ""), b, semicolon, b), list(b)},
		{list(name, colon, full(api.Open, ";")), list(full(api.Open, ";"))},
		{list(name, colon, leaf(api.End, ""), leaf(-1, "!"), leaf(21, ")")), list(leaf(api.End, ""), leaf(-1, "!"), leaf(21, ")"))},
		{list(full(api.AtWord, "x"), semicolon, name, colon, b), list(b)},
		{list(full(api.AtWord, "x"), full(api.Open, "{"), name, colon, b), list(b)},
		{list(full(api.AtWord, "x"), full(api.Open, "x"), name, colon, b), nil},
		{list(full(api.AtWord, "x"), full(api.Function, "{"), name, colon, b), nil},
		{list(leaf(api.End, ""), semicolon, name, colon, b), list(b)},
		{list(leaf(-1, ""), name, colon, b), nil},
		{list(name, colon, full(api.Delim, "!")), nil},
		{list(name, colon, full(api.Close, "")), nil},
		{list(name, colon, full(api.BadURL, "x")), nil},
		{list(name, leaf(api.Delim, ":"), b), nil},
		{list(leaf(api.Function, "A"), colon, b), nil},
	} {
		var want []api.Decl
		if c.want != nil {
			want = decls(api.Decl{Name: "a", Value: c.want})
		}
		if got := rules.Decls(c.in); !sameDecls(got, want) {
			t.Errorf("%d: Decls(%v) = %v", i, c.in, got)
		}
	}
	v, important := rules.Value(list(b, full(api.Delim, "!"), full(api.White, "w"), full(api.Ident, "Important")))
	if !nest.Same(v, list(b)) || !important {
		t.Errorf("Value of nodes with Kids = %v, %v", v, important)
	}
	if got := rules.Decls(list(leaf(api.Ident, ""), colon, b)); !sameDecls(got, decls(api.Decl{Value: list(b)})) {
		t.Errorf("Decls of an empty name = %v", got)
	}
}

func TestNodesDeeperThanCalls(t *testing.T) { // P4.2
	defer debug.SetMaxStack(debug.SetMaxStack(1 << 20))
	deep := list(leaf(api.Ident, "b"))
	for range 200000 {
		deep = list(api.Node{Token: api.Token{Kind: api.Open, Text: "("}, Kids: deep})
	}
	if v, important := rules.Value(deep); !nest.Same(v, deep) || important {
		t.Error("Value of deep nodes is not the same")
	}
	in := append(nodes("a:"), deep...)
	if got := rules.Decls(in); len(got) != 1 || !nest.Same(got[0].Value, deep) {
		t.Error("Decls of deep nodes are not the same")
	}
}

// pieces is what sheets of every kind are laid together from.
const pieces = "a|b|--c|:|:|;|;| |!|important|,|(|)|[|]|{|{|}|}|f(|@x|@y|<!--|-->|'s'|'x\n|url(p q)|1|/**/"

// some is sheets of every kind.
func some(seed int64, count int) []string {
	from := rand.New(rand.NewSource(seed))
	parts := strings.Split(pieces, "|")
	all := make([]string, count)
	for i := range all {
		for range from.Intn(30) {
			all[i] += parts[from.Intn(len(parts))]
		}
	}
	return all
}

// wrong tells what declarations may not be like.
func wrong(l []api.Decl) bool {
	for _, d := range l {
		if len(d.Value) == 0 || !nest.Same(d.Value, nest.Trim(d.Value)) || !strings.HasPrefix(d.Name, "--") && d.Name != strings.ToLower(d.Name) {
			return true
		}
		for _, n := range d.Value {
			switch n.Token.Kind {
			case api.BadString, api.BadURL, api.Close, api.Semicolon:
				return true
			}
			if n.Token.Kind == api.Delim && n.Token.Text == "!" {
				return true
			}
		}
	}
	return false
}

func TestEverySheetEnds(t *testing.T) { // P4.1 P4.2
	x := rule("x", said("y", "z"))
	for _, in := range some(4, 20000) {
		got, e := rules.Sheet([]byte(in))
		if e != api.OK {
			t.Fatalf("Sheet(%q): error %d", in, e)
		}
		for _, r := range got {
			if wrong(r.Decls) || !nest.Same(r.Prelude, nest.Trim(r.Prelude)) || r.At == "" && !r.Block || !r.Block && len(r.Decls) > 0 {
				t.Errorf("Sheet(%q): %v", in, r)
			}
		}
		behind, e := rules.Sheet([]byte("x{y:z}" + in))
		if want := append(all(x), got...); e != api.OK || !sameRules(behind, want) {
			t.Errorf("Sheet(%q) behind a rule: %v, %d, want %v", in, behind, e, want)
		}
		l := rules.Decls(nodes(in))
		if wrong(l) {
			t.Errorf("Decls(%q): %v", in, l)
		}
		if want := append(decls(said("y", "z")), l...); !sameDecls(rules.Decls(nodes("y:z;"+in)), want) {
			t.Errorf("Decls(%q) behind a declaration: want %v", in, want)
		}
	}
}

// spoil changes all that a list of nodes leads to, its spare room too.
func spoil(l []api.Node) {
	l = l[:cap(l)]
	for i := range l {
		spoil(l[i].Kids)
		l[i] = leaf(api.Delim, "spoilt")
	}
}

// spoilDecls does so with declarations.
func spoilDecls(l []api.Decl) {
	l = l[:cap(l)]
	for i := range l {
		spoil(l[i].Value)
		l[i] = api.Decl{Name: "spoilt"}
	}
}

func TestLeavesBytes(t *testing.T) { // P4.3
	const text = "@x y (z);a{b:f(c) d!important;e:g}"
	want := all(bare("x", "y (z)"), rule("a", loud("b", "f(c) d"), said("e", "g")))
	room := []byte(text + "spare")
	in := room[:len(text)]
	got, _ := rules.Sheet(in)
	if string(room) != text+"spare" {
		t.Errorf("Sheet changed its bytes, or those behind them: %q", room)
	}
	copy(room, bytes.Repeat([]byte("!"), len(room)))
	if !sameRules(got, want) {
		t.Errorf("Sheet keeps its bytes: %v", got)
	}
	again, _ := rules.Sheet([]byte(text))
	spoil(got[0].Prelude)
	spoil(got[1].Prelude)
	spoilDecls(got[1].Decls[:1:1])
	if !sameDecls(got[1].Decls[1:], want[1].Decls[1:]) {
		t.Errorf("two lists of one answer share memory: %v", got[1].Decls[1:])
	}
	spoilDecls(got[1].Decls)
	if !sameRules(again, want) {
		t.Errorf("two answers of Sheet share memory: %v", again)
	}
}

func TestLeavesNodes(t *testing.T) { // P4.3
	const text = " a : f(b) c ; @x {y} d:{e} f ! important ; spare"
	room := nodes(text)
	given := room[:len(room)-1]
	want := decls(said("a", "f(b) c"), loud("d", "{e} f"))
	got, again := rules.Decls(given), rules.Decls(given)
	if !nest.Same(room, nodes(text)) {
		t.Errorf("Decls changed its nodes: %v", room)
	}
	spoilDecls(got[:1:1])
	if !sameDecls(got[1:], want[1:]) {
		t.Errorf("two lists of one answer share memory: %v", got[1:])
	}
	spoilDecls(got)
	if !nest.Same(room, nodes(text)) || !sameDecls(again, want) {
		t.Errorf("what Decls answers is not of its own: %v, %v", room, again)
	}
	spoil(room)
	if !sameDecls(again, want) {
		t.Errorf("Decls keeps its nodes: %v", again)
	}
	for _, text := range []string{" f(a) b ", " f(a) b ! important "} {
		room := nodes(text + "spare")
		given := room[:len(room)-1]
		first, _ := rules.Value(given)
		second, _ := rules.Value(given)
		spoil(first)
		if !nest.Same(room, nodes(text+"spare")) || !nest.Same(second, nodes("f(a) b")) {
			t.Errorf("what Value(%q) answers is not of its own: %v, %v", text, room, second)
		}
		spoil(room)
		if !nest.Same(second, nodes("f(a) b")) {
			t.Errorf("Value(%q) keeps its nodes: %v", text, second)
		}
	}
}

func TestSharedKids(t *testing.T) { // P4.3
	in := nodes("a:(x);b:(x)")
	in[2].Kids = in[6].Kids
	got := rules.Decls(in)
	spoil(got[0].Value)
	if !sameDecls(got[1:], decls(said("b", "(x)"))) {
		t.Errorf("two values share memory: %v", got[1])
	}
}
