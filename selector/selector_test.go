package selector_test

import (
	"fmt"
	"maps"
	"math/rand"
	"reflect"
	"regexp"
	"slices"
	"strings"
	"testing"

	"fleuron/api"
	"fleuron/nest"
	"fleuron/points"
	"fleuron/selector"
	"fleuron/token"
)

type (
	simple   = selector.Simple
	compound = selector.Compound
	chain    = selector.Complex
)

// nodes is a text's.
func nodes(s string) []api.Node { return nest.All(token.All(points.Read([]byte(s)))) }

// all is a list.
func all(l ...chain) []chain { return l }

// one is a complex one of one compound.
func one(tag string, l ...simple) chain {
	return chain{Parts: []compound{{Tag: tag, Simple: l}}}
}

// then is c with a combinator and a compound behind it.
func then(c chain, comb, tag string, l ...simple) chain {
	return chain{
		Parts: append(append([]compound(nil), c.Parts...), compound{Tag: tag, Simple: l}),
		Combs: append(append([]string(nil), c.Combs...), comb),
	}
}

// with is c with a pseudo-element.
func with(c chain, pseudo int) chain {
	c.Pseudo = pseudo
	return c
}

func id(s string) simple             { return simple{Kind: 1, Name: s} }
func class(s string) simple          { return simple{Kind: 2, Name: s} }
func has(s string) simple            { return simple{Kind: 3, Name: s} }
func asks(name, op, v string) simple { return simple{Kind: 3, Name: name, Op: op, Value: v} }
func folds(name, op, v string) simple {
	return simple{Kind: 3, Name: name, Op: op, Value: v, Fold: true}
}
func word(kind int) simple { return simple{Kind: kind} }
func nth(kind, a, b int, of ...chain) simple {
	return simple{Kind: kind, A: a, B: b, List: of}
}
func of(kind int, l ...chain) simple { return simple{Kind: kind, List: l} }

// plain is the same list without empty lists in it.
func plain(l []chain) []chain {
	var out []chain
	for _, c := range l {
		n := chain{Combs: append([]string(nil), c.Combs...), Pseudo: c.Pseudo}
		for _, p := range c.Parts {
			q := compound{Tag: p.Tag}
			for _, s := range p.Simple {
				s.List = plain(s.List)
				q.Simple = append(q.Simple, s)
			}
			n.Parts = append(n.Parts, q)
		}
		out = append(out, n)
	}
	return out
}

// same compares all fields; nil and an empty list are the same.
func same(a, b []chain) bool { return reflect.DeepEqual(plain(a), plain(b)) }

// reads asks Parse of l for want.
func reads(t *testing.T, name string, l []api.Node, want []chain) {
	t.Helper()
	if got, e := selector.Parse(l); !same(got, want) || e != api.OK {
		t.Errorf("Parse(%s):\n got %+v, %d\nwant %+v", name, got, e, want)
	}
}

// refuses asks Parse of l for ErrBad.
func refuses(t *testing.T, name string, l []api.Node) {
	t.Helper()
	if got, e := selector.Parse(l); len(got) > 0 || e != api.ErrBad {
		t.Errorf("Parse(%s) = %+v, %d, want none, %d", name, got, e, api.ErrBad)
	}
}

func TestKinds(t *testing.T) { // P6.1
	got := []int{selector.ID, selector.Class, selector.Attr, selector.First, selector.Last, selector.Only, selector.Empty, selector.Root, selector.Nth, selector.NthLast, selector.Not, selector.Is, selector.Where}
	for i, kind := range got {
		if kind != i+1 {
			t.Errorf("kind %d is %d", i+1, kind)
		}
	}
}

func TestCompounds(t *testing.T) { // P6.1
	for _, c := range []struct {
		in   string
		want chain
	}{
		{"a", one("a")},
		{"A", one("a")},
		{"LI", one("li")},
		{"\u00c9A", one("\u00c9a")},
		{"-a", one("-a")},
		{"--", one("--")},
		{"\\41 b", one("ab")},
		{"\\31", one("1")},
		{"*", one("*")},
		{"before", one("before")},
		{"not", one("not")},
		{"of", one("of")},
		{"#B", one("", id("B"))},
		{"#-b", one("", id("-b"))},
		{"#\\31", one("", id("1"))},
		{".C", one("", class("C"))},
		{"./**/c", one("", class("c"))},
		{".\\.", one("", class("."))},
		{"a#B", one("a", id("B"))},
		{"*.c", one("*", class("c"))},
		{"a/**/#B/**/.c/**/:root", one("a", id("B"), class("c"), word(8))},
		{".c.c#d#d", one("", class("c"), class("c"), id("d"), id("d"))},
		{"a[x].c:root#d[y]", one("a", has("x"), class("c"), word(8), id("d"), has("y"))},
		{":first-child", one("", word(4))},
		{":last-child", one("", word(5))},
		{":only-child", one("", word(6))},
		{":empty", one("", word(7))},
		{":root", one("", word(8))},
		{"a:ROOT:First-CHILD", one("a", word(8), word(4))},
		{":\\72oot", one("", word(8))},
		{":/**/root", one("", word(8))},
	} {
		for _, in := range []string{c.in, " " + c.in, c.in + "/**/ ", "\n\t" + c.in + "\n", " /**/ " + c.in + " /**/ "} {
			reads(t, in, nodes(in), all(c.want))
		}
	}
}

func TestAttributes(t *testing.T) { // P6.1
	for _, c := range []struct {
		in   string
		want simple
	}{
		{"[x]", has("x")},
		{"[X\u00c9]", has("x\u00c9")},
		{"[ x ]", has("x")},
		{"[ /**/ x /**/ ]", has("x")},
		{"[i]", has("i")},
		{"[x", has("x")},
		{"[x=Y]", asks("x", "=", "Y")},
		{"[x='']", asks("x", "=", "")},
		{"[x=\"A b\"]", asks("x", "=", "A b")},
		{"[x='\\'\"']", asks("x", "=", "'\"")},
		{"[x~=y]", asks("x", "~=", "y")},
		{"[x|=y]", asks("x", "|=", "y")},
		{"[x^=y]", asks("x", "^=", "y")},
		{"[x$=y]", asks("x", "$=", "y")},
		{"[x*=y]", asks("x", "*=", "y")},
		{"[x*/**/=y]", asks("x", "*=", "y")},
		{"[ x = y ]", asks("x", "=", "y")},
		{"[ x\n|=\t'y' ]", asks("x", "|=", "y")},
		{"[ /**/ x /**/ = /**/ y /**/ ]", asks("x", "=", "y")},
		{"[x=i]", asks("x", "=", "i")},
		{"[x=y i]", folds("x", "=", "y")},
		{"[x=y I]", folds("x", "=", "y")},
		{"[x='y'i]", folds("x", "=", "y")},
		{"[x=y/**/i]", folds("x", "=", "y")},
		{"[x=y\\69]", asks("x", "=", "yi")},
		{"[x=y \\69]", folds("x", "=", "y")},
		{"[ x ^= 'y' /**/ i]", folds("x", "^=", "y")},
		{"[i=i i]", folds("i", "=", "i")},
	} {
		reads(t, c.in, nodes(c.in), all(one("", c.want)))
		reads(t, "a"+c.in, nodes("a"+c.in), all(one("a", c.want)))
	}
}

func TestCounted(t *testing.T) { // P6.1
	for _, c := range []struct {
		in   string
		want simple
	}{
		{":nth-child(1)", nth(9, 0, 1)},
		{":nth-last-child(1)", nth(10, 0, 1)},
		{":NTH-Child(ODD)", nth(9, 2, 1)},
		{":nth-child( -n + 3 )", nth(9, -1, 3)},
		{":nth-child(even", nth(9, 2, 0)},
		{":nth-child(2n of a)", nth(9, 2, 0, one("a"))},
		{":nth-last-child(2n OF a)", nth(10, 2, 0, one("a"))},
		{":nth-child( odd  of  A , #b )", nth(9, 2, 1, one("a"), one("", id("b")))},
		{":nth-child(2n + 1 of a > b)", nth(9, 2, 1, then(one("a"), ">", "b"))},
		{":nth-child(3 \\6f f a)", nth(9, 0, 3, one("a"))},
		{":nth-child(3 /**/ of /**/ a)", nth(9, 0, 3, one("a"))},
		{":nth-child(3/**/ of/**/ a)", nth(9, 0, 3, one("a"))},
		{":nth-child(3 of of)", nth(9, 0, 3, one("of"))},
		{":nth-child(3 of a of b)", nth(9, 0, 3, then(then(one("a"), " ", "of"), " ", "b"))},
		{":nth-child(3 of of of of)", nth(9, 0, 3, then(then(one("of"), " ", "of"), " ", "of"))},
		{":nth-child(3 of :nth-child(n of .a))", nth(9, 0, 3, one("", nth(9, 1, 0, one("", class("a")))))},
	} {
		reads(t, c.in, nodes(c.in), all(one("", c.want)))
		in := "A" + c.in
		reads(t, in, nodes(in), all(one("a", c.want)))
	}
}

func TestLists(t *testing.T) { // P6.1
	a, b := one("a"), one("b")
	for _, c := range []struct {
		in   string
		want []chain
	}{
		{"a,b", all(a, b)},
		{" a /**/ , /**/ b ", all(a, b)},
		{"a,a", all(a, a)},
		{"a\n,\tb,*", all(a, b, one("*"))},
		{"a::before,b", all(with(a, api.Before), b)},
		{":not(a)", all(one("", of(11, a)))},
		{":NOT( a /**/ , b )", all(one("", of(11, a, b)))},
		{":not(a", all(one("", of(11, a)))},
		{":not(a b, b)", all(one("", of(11, then(a, " ", "b"), b)))},
		{":not(:not(a))", all(one("", of(11, one("", of(11, a)))))},
		{":is(a)", all(one("", of(12, a)))},
		{":iS(a,b)", all(one("", of(12, a, b)))},
		{":where(a, b)", all(one("", of(13, a, b)))},
		{"a:is(b):not(a)", all(one("a", of(12, b), of(11, a)))},
		{":is()", all(one("", of(12)))},
		{":is( )", all(one("", of(12)))},
		{":where()", all(one("", of(13)))},
		{":is(,)", all(one("", of(12)))},
		{":is(5)", all(one("", of(12)))},
		{":is(a,,b)", all(one("", of(12, a, b)))},
		{":is(,a,5,b,)", all(one("", of(12, a, b)))},
		{":where(>,a,:x,b,a >)", all(one("", of(13, a, b)))},
		{":is(a,[,b", all(one("", of(12, a)))},
		{":is(a::before, :after, ::marker, b)", all(one("", of(12, b)))},
		{":is(:not(), a)", all(one("", of(12, a)))},
		{":is(:not(a,), :nth-child(1 of ::before), b)", all(one("", of(12, b)))},
		{":is(:is(), a)", all(one("", of(12, one("", of(12)), a)))},
		{":is(:where(5), a)", all(one("", of(12, one("", of(13)), a)))},
		{":not(:is(5))", all(one("", of(11, one("", of(12)))))},
		{":not(:is(::before))", all(one("", of(11, one("", of(12)))))},
	} {
		reads(t, c.in, nodes(c.in), c.want)
	}
}

func TestCombinators(t *testing.T) { // P6.1
	for _, comb := range []string{">", "+", "~"} {
		want := all(then(one("a"), comb, "b"))
		for _, w := range []string{"", " ", "\n\t", "/**/", " /**/ "} {
			for _, x := range []string{"", " ", "/**/", " /**/ /**/ "} {
				in := "a" + w + comb + x + "b"
				reads(t, in, nodes(in), want)
			}
		}
	}
	for _, w := range []string{" ", "\n", " \t ", "/**/ ", " /**/", " /**/ /**/ "} {
		in := "a" + w + "b"
		reads(t, in, nodes(in), all(then(one("a"), " ", "b")))
	}
	in := "#a > .b + [c] ~ :root * + *.d :is(e)"
	want := then(then(then(one("", id("a")), ">", "", class("b")), "+", "", has("c")), "~", "", word(8))
	want = then(then(then(want, " ", "*"), "+", "*", class("d")), " ", "", of(12, one("e")))
	reads(t, in, nodes(in), all(want))
	reads(t, "a-->b", nodes("a-->b"), all(then(one("a--"), ">", "b")))
}

func TestElements(t *testing.T) { // P6.1
	a := one("a")
	for _, c := range []struct {
		in   string
		want chain
	}{
		{"a::before", with(a, api.Before)},
		{"a::after", with(a, api.After)},
		{"a::marker", with(a, api.Marker)},
		{"a::first-letter", with(a, api.FirstLetter)},
		{"a::first-line", with(a, api.FirstLine)},
		{"a:before", with(a, api.Before)},
		{"a:after", with(a, api.After)},
		{"a:first-letter", with(a, api.FirstLetter)},
		{"a:first-line", with(a, api.FirstLine)},
		{"a::BEFORE", with(a, api.Before)},
		{"a:First-Line", with(a, api.FirstLine)},
		{"a::\\6d arker", with(a, api.Marker)},
		{"a/**/:/**/:/**/marker/**/", with(a, api.Marker)},
		{"::before", with(one("*"), api.Before)},
		{":after", with(one("*"), api.After)},
		{"::marker", with(one("*"), api.Marker)},
		{"*::before", with(one("*"), api.Before)},
		{".c::before", with(one("", class("c")), api.Before)},
		{".c:before", with(one("", class("c")), api.Before)},
		{"a:root:before", with(one("a", word(8)), api.Before)},
		{":is(b)::after", with(one("", of(12, one("b"))), api.After)},
		{"a ::before", with(then(a, " ", "*"), api.Before)},
		{"a > ::before", with(then(a, ">", "*"), api.Before)},
		{"a~:before", with(then(a, "~", "*"), api.Before)},
		{"a b::before", with(then(a, " ", "b"), api.Before)},
		{"a .c:first-line", with(then(a, " ", "", class("c")), api.FirstLine)},
	} {
		for _, in := range []string{c.in, " " + c.in + " ", c.in + "/**/ /**/"} {
			reads(t, in, nodes(in), all(c.want))
		}
		for _, f := range []string{":not(", ":nth-child(1 of "} {
			refuses(t, f+c.in, nodes(f+c.in+")"))
		}
		reads(t, ":is("+c.in, nodes(":is("+c.in+")"), all(one("", of(12))))
		reads(t, ":where("+c.in, nodes(":where("+c.in+")"), all(one("", of(13))))
	}
}

func TestRefuses(t *testing.T) { // P6.1
	for _, in := range []string{
		"", " ", "/**/", " /**/ ", ",", " , ", "a,", ",a", "a,,b", "a, ,b", "a,b,", "a,5", "5,a", "a;", "a,b;c",
		"5", "5a", "a5%", "1%", "'a'", "\"a", "url(a)", "@a", "<!--", "a-->", ";", ":", "(a)", "{a}", "a{}", "a(b)", "a()", ")", "a)", "]", "}", "!", "a!", "a !important", "&", "a&", "/", "|a", "a|b", "*|a", "a|*", "||", "a || b",
		"**", "*a", "a*", "a/**/b", "a/**/*", "*/**/a", "#a/**/b", "[x]a", ":root/**/a", ":not(a)b", "#a*", ".a*",
		"#1", "a#1", "#-1", "# a", "#", "a#", ".", ". a", "./**/ a", "a.", "a. b", ".5", ".1a", ".#a", "..a", ".:root", ".[x]", ".*", ".f()", ".'a'",
		">", "> a", "+ a", "~ a", "a >", "a > ", "a + ", "a ~", "a > > b", "a >> b", "a + > b", "a ~ + b", "a>,b", "a,>b", "a > > ", "a = b", "a ^ b", "a . b", "a , , b",
		"[]", "[ ]", "[", "[*]", "[5]", "['x']", "[#x]", "[x y]", "[x i]", "[=x]", "[=]", "[x=]", "[x= ]", "[x==y]", "[x= =y]", "[x~y]", "[x~]", "[x~ =y]", "[x =~y]", "[x~~=y]", "[x!=y]", "[x>=y]", "[x+=y]", "[x.=y]", "[x%=y]", "[x=5]", "[x=#y]", "[x=5px]", "[x=*]", "[x=f()]", "[x=url(y)]", "[x=(y)]", "[x=y z]", "[x=y s]", "[x=y i i]", "[x=y 'i']", "[x=y ii]", "[x=y,i]", "[x=y][", "[x,y]", "[f(x)]", "[x.y]", "[a|x]", "[*|x]", "[x=\"y\nz\"]", "(x=y)", "{x}",
		":", "a:", "::", "a::", ": root", ":/**/ root", ":a", ":link", ":hover", ":first", ":root-", ":root()", ":empty()", ":first-child(1)", ":is", ":not", ":where", ":nth-child", ":nth-last-child", ":has(a)", ":matches(a)", ":nth-of-type(1)", ":*", ":5", ":'root'", ":#root", ":.a", ":[x]", ":(a)", ":{a}", ":(root)",
		":nth-child()", ":nth-child( )", ":nth-child(a)", ":nth-child(1.5)", ":nth-child(1,2)", ":nth-child(of a)", ":nth-child( of a)", ":nth-child(of)", ":nth-child(a of b)", ":nth-child(2n of)", ":nth-child(2n of )", ":nth-child(2n of  /**/ )", ":nth-child(2n of ,)", ":nth-child(2n of a,)", ":nth-child(2n of a,,b)", ":nth-child(2n of 5)", ":nth-child(2n of.a)", ":nth-child(2n of#a)", ":nth-child(2n of/**/a)", ":nth-child(2n/**/of a)", ":nth-child('2n' of a)", ":nth-child(odd/**/of a)", ":nth-child(2n a)", ":nth-child(2n off a)", ":nth-child(2n o f a)", ":nth-child(2n 'of' a)", ":nth-child(2n of of.a of)a", ":nth-child(2n/**/of of a)", ":nth-child(2n of > a)", ":nth-child(2n of ::before)", ":nth-last-child(2n of a b,)", ":nth-last-child(x)",
		":not()", ":not( )", ":not(,)", ":not(a,)", ":not(,a)", ":not(5)", ":not(a,5)", ":not(a b >)", ":not(:x)", ":not(::before)", ":not(a:after)", ":not(:not())", ":not(", ":not(a{)",
		"::a", "::root", "::first-child", "::before()", ":before()", "::before(a)", "::f(a)", ":marker", "a:marker", ":::before", ":: before", ": :before", "::/**/ before", "::'before'", "::#before", "::*", "::before a", "::before > a", "::before > ", "::before,", "::before::before", "::before:after", ":before:root", "::before.a", "::before#a", "::before[x]", "::before*", "::before/**/a", "::before+", "a::before b", "a::before, ", "::nth-child(1)", "::is(a)", "::-before", "::before-", "::selection", "::first-letter::marker",
	} {
		refuses(t, in, nodes(in))
		refuses(t, in+", then a", append(nodes(in), nodes(",a")...))
		refuses(t, "a, then "+in, append(nodes("a,"), nodes(in)...))
		if !strings.Contains(in, ",") {
			l := nodes(":is()")
			l[1].Kids = nodes(in)
			reads(t, ":is("+in+")", l, all(one("", of(12))))
			l[1].Kids = append(nodes("b ,"), append(nodes(in), nodes(", .c")...)...)
			reads(t, ":is(b ,"+in+", .c)", l, all(one("", of(12, one("b"), one("", class("c"))))))
		}
	}
	refuses(t, "nil", nil)
}

func TestLimits(t *testing.T) { // P6.1
	rep := strings.Repeat
	for _, c := range []struct {
		ok, bad string
	}{
		{rep("a ", 8), rep("a ", 9)},
		{rep("a>", 7) + "a", rep("a>", 8) + "a"},
		{rep("a ", 7) + "::before", rep("a ", 8) + "::before"},
		{rep("a ", 8) + ",b", rep("a ", 9) + ",b"},
		{rep(".a", 16), rep(".a", 17)},
		{"b" + rep(".a", 16), "b" + rep(".a", 17)},
		{"*" + rep(":root", 16), "*" + rep(":root", 17)},
		{rep(".a", 15) + ":is(b)::after", rep(".a", 16) + ":is(b)::after"},
		{rep(".a", 16) + "::after", rep(".a", 17) + "::after"},
		{rep(".a", 16) + " " + rep("#a", 16), rep(".a", 16) + " " + rep("#a", 17)},
		{rep("a,", 15) + "a", rep("a,", 16) + "a"},
		{":not(" + rep("a,", 15) + "a)", ":not(" + rep("a,", 16) + "a)"},
		{":is(" + rep("a,", 15) + "a)", ":is(" + rep("a,", 16) + "a)"},
		{":where(" + rep("5,a,", 15) + "a,5)", ":where(" + rep("5,a,", 16) + "a,5)"},
		{":is(" + rep("5,", 1000) + "a)", ":is(" + rep("5,", 1000) + rep("a,", 17) + ")"},
		{":nth-child(2 of " + rep("a,", 15) + "a)", ":nth-child(2 of " + rep("a,", 16) + "a)"},
		{":not(" + rep("a ", 8) + ")", ":not(" + rep("a ", 9) + ")"},
		{":not(" + rep(".a", 16) + ")", ":not(" + rep(".a", 17) + ")"},
		{rep(":not(", 4) + "a" + rep(")", 4), rep(":not(", 5) + "a" + rep(")", 5)},
		{rep(":not(", 4) + "a", rep(":not(", 5) + "a"},
		{rep(":not(", 3) + ":nth-child(1)", rep(":not(", 4) + ":nth-child(1)"},
		{rep(":not(", 3) + ":is()", rep(":not(", 4) + ":is()"},
		{rep(":nth-child(1 of ", 4) + "a", rep(":nth-child(1 of ", 5) + "a"},
		{rep(":not(", 4) + "[x]:root", rep(":not(", 4) + "[x]:where(a)"},
		{rep(rep(":not(", 4)+"a"+rep(")", 4), 2), "a" + rep(":not(", 5) + "a" + rep(")", 5)},
	} {
		if _, e := selector.Parse(nodes(c.ok)); e != api.OK {
			t.Errorf("Parse(%s) = %d", c.ok, e)
		}
		refuses(t, c.bad, nodes(c.bad))
	}
	a := one("a")
	inmost := one("", of(12, one("", of(12))))
	for in, want := range map[string]chain{
		rep(":is(", 5) + "a":  one("", of(12, one("", of(12, inmost)))),
		rep(":is(", 40) + "a": one("", of(12, one("", of(12, inmost)))),
		":is(" + rep(":not(", 4) + "a" + rep(")", 4) + ",a)":    one("", of(12, a)),
		":is(" + rep("a ", 9) + ",a)":                           one("", of(12, a)),
		":is(" + rep(".a", 17) + ",a)":                          one("", of(12, a)),
		":is(:is(" + rep("a,", 17) + "),a)":                     one("", of(12, a)),
		":where(" + rep(":is("+rep("a,", 17)+"),", 40) + "a)":   one("", of(13, a)),
		":is(:nth-child(1 of " + rep("a,", 16) + "a), a)":       one("", of(12, a)),
		":where(:nth-child(n of " + rep(":is(", 3) + "a)))),a)": one("", of(13, one("", nth(9, 1, 0, one("", of(12, one("", of(12)))))), a)),
	} {
		reads(t, in, nodes(in), all(want))
	}
}

func TestOddNodes(t *testing.T) { // P6.1
	leaf := func(kind int, text string) api.Node {
		return api.Node{Token: api.Token{Kind: kind, Text: text}}
	}
	for kind := -1; kind <= 21; kind++ {
		for _, text := range []string{"", "x", ">", "*", ".", "[", "(", "not", "is"} {
			known := kind == api.Ident || kind == api.White || kind == api.Comma || kind == api.Delim && (text == "*" || text == ">")
			if !known {
				name := fmt.Sprintf("kind %d, %q", kind, text)
				refuses(t, name, []api.Node{leaf(kind, text)})
				refuses(t, "a b, then "+name, append(nodes("a b"), leaf(kind, text)))
				refuses(t, "a, then "+name, append(nodes("a "), leaf(kind, text)))
				refuses(t, name+" in between", append(append(nodes("a"), leaf(kind, text)), nodes(" b")...))
			}
		}
	}
	end := leaf(api.End, "")
	refuses(t, "an End behind a", []api.Node{leaf(api.Ident, "a"), end})
	refuses(t, "an End behind a White", []api.Node{leaf(api.Ident, "a"), leaf(api.White, ""), end})
	refuses(t, "an End behind a pseudo-element", append(nodes("a::before"), end))
	l := nodes("[x]")
	l[0].Kids = append(l[0].Kids, end)
	refuses(t, "an End in a block", l)
	l = nodes("[x=y]")
	l[0].Kids = append(l[0].Kids, end)
	refuses(t, "an End behind a value", l)
	for _, op := range []string{"", "==", "~=", "~ ", "x"} {
		l := nodes("[x=y]")
		l[0].Kids[1].Token.Text = op
		refuses(t, "an Op "+op, l)
	}
	l = nodes("#a")
	l[0].Token.ID = false
	refuses(t, "a Hash that is no ID", l)
	deep := nodes("a")
	for range 200000 {
		deep = []api.Node{{Token: api.Token{Kind: api.Function, Text: "is"}, Kids: append(nodes(":"), deep...)}}
	}
	reads(t, "many functions", append(nodes(":"), deep...), all(one("", of(12, one("", of(12, one("", of(12, one("", of(12))))))))))
}

// shorts is some nodes, each in a form that a pattern can be held against.
var shorts = map[string]string{"a": "i", "root": "p", "before": "e", "marker": "m", " ": "_", "*": "*", ".": ".", ":": ":", ">": ">", "+": "+", "#b": "#", "#1": "x", "[x]": "A", "[5]": "x", ":is(b)": "F", "5": "x"}

var (
	tag    = `(?:[ipem]|\*)`
	some   = `(?:#|\.[ipem]|A|:p|F)`
	part   = `(?:` + tag + some + `*|` + some + `+)`
	comb   = `(?:_+|_*[>+]_*)`
	pseudo = `(?:::[em]|:e)`
	whole  = regexp.MustCompile(`^_*(?:` + part + `(?:` + comb + part + `)*(?:` + comb + `?` + pseudo + `)?|` + pseudo + `)_*$`)
)

func TestAllShortLists(t *testing.T) { // P6.1
	count := 0
	try := func(in, short string) {
		l, e := selector.Parse(nodes(in))
		want := whole.MatchString(short)
		if want != (e == api.OK) || want != (len(l) == 1) {
			t.Errorf("Parse(%s) = %v, %d", in, l, e)
		}
		if want {
			count++
			text := selector.Text(l[0])
			reads(t, text, nodes(text), l)
		}
	}
	var next func(in, short string, left int)
	next = func(in, short string, left int) {
		try(in, short)
		if left == 0 {
			return
		}
		for p, s := range shorts {
			next(in+"/**/"+p, short+s, left-1)
		}
	}
	next("", "", 4)
	from := rand.New(rand.NewSource(6))
	parts := slices.Sorted(maps.Keys(shorts))
	for range 100000 {
		in, short := "", ""
		for range 5 + from.Intn(3) {
			p := parts[from.Intn(len(parts))]
			in, short = in+"/**/"+p, short+shorts[p]
		}
		try(in, short)
	}
	if count < 1000 {
		t.Errorf("only %d were read", count)
	}
}

func TestAllShortAttributes(t *testing.T) { // P6.1
	inner := map[string]string{"x": "n", "i": "i", "'y'": "s", " ": "_", "=": "=", "~": "~", "$": "$", "+": "x", "5": "x", ":": "x"}
	good := regexp.MustCompile(`^_*[ni]_*(?:[~$]?=_*[nis]_*i?)?$`)
	count := 0
	var next func(in, short string, left int)
	next = func(in, short string, left int) {
		if l := nodes("[" + in + "]"); !good.MatchString(short) {
			if !good.MatchString(strings.TrimRight(short, "_")) { // of White behind the `i` the chapter says nothing
				refuses(t, "["+in+"]", l)
			}
		} else if got, e := selector.Parse(l); e != api.OK || len(got) != 1 || got[0].Parts[0].Simple[0].Kind != selector.Attr {
			t.Errorf("Parse([%s]) = %v, %d", in, got, e)
		} else {
			count++
		}
		for p, s := range inner {
			if left > 0 {
				next(in+"/**/"+p, short+s, left-1)
			}
		}
	}
	next("", "", 3)
	next(" x", "_n", 3)
	next("x=", "n=", 4)
	next("x~ =", "n~_=", 2)
	if count < 50 {
		t.Errorf("only %d were read", count)
	}
}

// spoil changes all that a list leads to, its spare room too.
func spoil(l []chain) {
	l = l[:cap(l)]
	for i := range l {
		parts := l[i].Parts[:cap(l[i].Parts)]
		for j := range parts {
			simples := parts[j].Simple[:cap(parts[j].Simple)]
			for k := range simples {
				spoil(simples[k].List)
				simples[k] = class("spoilt")
			}
			parts[j] = compound{Tag: "spoilt"}
		}
		combs := l[i].Combs[:cap(l[i].Combs)]
		for j := range combs {
			combs[j] = "spoilt"
		}
		l[i] = one("spoilt")
	}
}

// spoilNodes does so with nodes.
func spoilNodes(l []api.Node) {
	l = l[:cap(l)]
	for i := range l {
		spoilNodes(l[i].Kids)
		l[i] = api.Node{Token: api.Token{Kind: api.Delim, Text: "spoilt"}}
	}
}

const rich = " a.b > [c='d' i] :nth-child(2n+1 of e, f g) , #h:is(i, 5, j):not(k)::before , :where(l + m) ~ n , "

func TestLeavesNodes(t *testing.T) { // P6.3
	for _, in := range []string{rich + "o", rich + "5", ":is(a,5", "5", " "} {
		room := nodes(in + " spare")
		given := room[:len(nodes(in))]
		got, e := selector.Parse(given)
		if !nest.Same(room, nodes(in+" spare")) {
			t.Errorf("Parse(%s) changed its nodes: %v", in, room)
		}
		again, f := selector.Parse(given)
		if !same(got, again) || e != f {
			t.Errorf("Parse(%s) is not the same twice: %v, %d, %v, %d", in, got, e, again, f)
		}
		spoil(got)
		if !nest.Same(room, nodes(in+" spare")) {
			t.Errorf("what Parse(%s) answers is not of its own: %v", in, room)
		}
		spoilNodes(room)
		third, _ := selector.Parse(nodes(in))
		if !same(again, third) {
			t.Errorf("Parse(%s) keeps its nodes, or what it answered: %v", in, again)
		}
	}
}

func TestListsOfTheirOwn(t *testing.T) { // P6.3
	want, _ := selector.Parse(nodes(rich + "o"))
	for i := range want {
		got, _ := selector.Parse(nodes(rich + "o"))
		spoil(got[i : i+1 : i+1])
		if !same(got[:i], want[:i]) || !same(got[i+1:], want[i+1:]) {
			t.Errorf("two lists of one answer share memory: %v", got)
		}
	}
	got, _ := selector.Parse(nodes(rich + "o"))
	first := got[0].Parts
	spoil(first[2].Simple[0].List)
	first[2].Simple[0].List = want[0].Parts[2].Simple[0].List
	if !same(got, want) {
		t.Errorf("two lists of one answer share memory: %v", got)
	}
	l := nodes(":is(a b) :is(a b)")
	l[4].Kids = l[1].Kids
	got, _ = selector.Parse(l)
	spoil(got[0].Parts[0].Simple[0].List)
	if !same(got[0].Parts[1].Simple[0].List, all(then(one("a"), " ", "b"))) {
		t.Errorf("two lists of one answer share memory: %v", got)
	}
}
