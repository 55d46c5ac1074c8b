package token_test

import (
	"math"
	"math/rand"
	"slices"
	"strings"
	"testing"

	"fleuron/api"
	"fleuron/token"
)

// of is a token of a kind and a text.
func of(kind int, text string) api.Token { return api.Token{Kind: kind, Text: text} }

// alone is a token that is of its kind, and no more.
func alone(kind int) api.Token { return api.Token{Kind: kind} }

func ident(s string) api.Token         { return of(api.Ident, s) }
func delim(s string) api.Token         { return of(api.Delim, s) }
func quoted(s string) api.Token        { return of(api.String, s) }
func address(s string) api.Token       { return of(api.URL, s) }
func function(s string) api.Token      { return of(api.Function, s) }
func hash(s string, id bool) api.Token { return api.Token{Kind: api.Hash, Text: s, ID: id} }
func open(s string) api.Token          { return of(api.Open, s) }
func closed(s string) api.Token        { return of(api.Close, s) }

// whole is a number without a sign, a point, an exponent.
func whole(n int) api.Token { return api.Token{Kind: api.Number, Int: n, Whole: true} }

// signed is one with a sign.
func signed(n int) api.Token { return api.Token{Kind: api.Number, Int: n, Whole: true, Sign: true} }

// broken is one with a point, or an exponent.
var broken = api.Token{Kind: api.Number}

// white is White signs.
var white = alone(api.White)

// one is a sheet's words, as they should be.
type one struct {
	in   string
	want []api.Token
}

// list is tokens.
func list(l ...api.Token) []api.Token { return l }

// check compares what is told with what should be.
func check(t *testing.T, all []one) {
	t.Helper()
	for _, c := range all {
		if got := token.All([]rune(c.in)); !slices.Equal(got, c.want) {
			t.Errorf("All(%q):\n got %v\nwant %v", c.in, got, c.want)
		}
	}
}

func TestSheet(t *testing.T) { // P2.1
	check(t, []one{
		{"", nil},
		{"a{b:1}", list(ident("a"), open("{"), ident("b"), alone(api.Colon), whole(1), closed("}"))},
		{"a,b;c", list(ident("a"), alone(api.Comma), ident("b"), alone(api.Semicolon), ident("c"))},
		{"([{}])", list(open("("), open("["), open("{"), closed("}"), closed("]"), closed(")"))},
		{"!*/=~|>&%$^`?\x01\x7f", list(delim("!"), delim("*"), delim("/"), delim("="), delim("~"), delim("|"), delim(">"), delim("&"), delim("%"), delim("$"), delim("^"), delim("`"), delim("?"), delim("\x01"), delim("\x7f"))},
		{"\x00\r\f", list(delim("\x00"), delim("\r"), delim("\f"))},
	})
}

func TestCommentsAndWhite(t *testing.T) { // P2.1
	check(t, []one{
		{" ", list(white)},
		{"\n\t \n", list(white)},
		{"a \t\nb", list(ident("a"), white, ident("b"))},
		{"a/**/b", list(ident("a"), ident("b"))},
		{"a /**/ b", list(ident("a"), white, white, ident("b"))},
		{"/*x*//*y*/a", list(ident("a"))},
		{"a/*x*//*y*/", list(ident("a"))},
		{"/*", nil},
		{"/* a", nil},
		{"/* a *", nil},
		{"/*/a*/b", list(ident("b"))},
		{"/***/b", list(ident("b"))},
		{"/* /* */ */", list(white, delim("*"), delim("/"))},
		{"/ *", list(delim("/"), white, delim("*"))},
		{"/", list(delim("/"))},
		{"*/", list(delim("*"), delim("/"))},
		{"'/*a*/'", list(quoted("/*a*/"))},
		{"-/**/-/**/>", list(delim("-"), delim("-"), delim(">"))},
		{"1/**/px", list(whole(1), ident("px"))},
		{"f/**/(", list(ident("f"), open("("))},
		{"#/**/a", list(delim("#"), ident("a"))},
	})
}

func TestStrings(t *testing.T) { // P2.1
	check(t, []one{
		{`"a'b"'c"d'`, list(quoted("a'b"), quoted(`c"d`))},
		{`""''`, list(quoted(""), quoted(""))},
		{`"`, list(quoted(""))},
		{`'a`, list(quoted("a"))},
		{`"a\`, list(quoted("a"))},
		{`"\`, list(quoted(""))},
		{"\"a\nb", list(alone(api.BadString), white, ident("b"))},
		{"'\n'", list(alone(api.BadString), white, quoted(""))},
		{"'a\\\nb'", list(quoted("ab"))},
		{"'\\\n\\\n'", list(quoted(""))},
		{"'\\\n\n'", list(alone(api.BadString), white, quoted(""))},
		{`"\"\'\\"`, list(quoted(`"'\`))},
		{`"\41 b\41  c"`, list(quoted("AbA c"))},
		{"'\\41\nb'", list(quoted("Ab"))},
		{"'\\41", list(quoted("A"))},
		{"'\\4", list(quoted("\x04"))},
		{"'a\\\n", list(quoted("a"))},
		{`"\0"`, list(quoted("\ufffd"))},
		{"'\t\x00\r'", list(quoted("\t\x00\r"))},
		{`"a"b`, list(quoted("a"), ident("b"))},
	})
}

func TestHashes(t *testing.T) { // P2.1
	check(t, []one{
		{"#a", list(hash("a", true))},
		{"#_9-", list(hash("_9-", true))},
		{"#\u00e9", list(hash("\u00e9", true))},
		{"#-a", list(hash("-a", true))},
		{"#--", list(hash("--", true))},
		{"#-\\61", list(hash("-a", true))},
		{"#\\31", list(hash("1", true))},
		{"#\\", list(hash("\ufffd", true))},
		{"#1", list(hash("1", false))},
		{"#-", list(hash("-", false))},
		{"#-1", list(hash("-1", false))},
		{"#1\\62", list(hash("1b", false))},
		{"#a(", list(hash("a", true), open("("))},
		{"#", list(delim("#"))},
		{"# a", list(delim("#"), white, ident("a"))},
		{"##", list(delim("#"), delim("#"))},
		{"#\\\n", list(delim("#"), delim("\\"), white)},
		{"#.", list(delim("#"), delim("."))},
	})
}

func TestAtWords(t *testing.T) { // P2.1
	check(t, []one{
		{"@a", list(of(api.AtWord, "a"))},
		{"@Media(", list(of(api.AtWord, "Media"), open("("))},
		{"@-a", list(of(api.AtWord, "-a"))},
		{"@--", list(of(api.AtWord, "--"))},
		{"@\\61", list(of(api.AtWord, "a"))},
		{"@-\\61", list(of(api.AtWord, "-a"))},
		{"@\\", list(of(api.AtWord, "\ufffd"))},
		{"@", list(delim("@"))},
		{"@1", list(delim("@"), whole(1))},
		{"@-", list(delim("@"), delim("-"))},
		{"@-1", list(delim("@"), signed(-1))},
		{"@ a", list(delim("@"), white, ident("a"))},
		{"@\\\n", list(delim("@"), delim("\\"), white)},
	})
}

func TestSignsThatBeginMore(t *testing.T) { // P2.1
	check(t, []one{
		{"+", list(delim("+"))},
		{"-", list(delim("-"))},
		{".", list(delim("."))},
		{"+a", list(delim("+"), ident("a"))},
		{".a", list(delim("."), ident("a"))},
		{"+.", list(delim("+"), delim("."))},
		{"-.", list(delim("-"), delim("."))},
		{"..5", list(delim("."), broken)},
		{"+ 1", list(delim("+"), white, whole(1))},
		{"++1", list(delim("+"), signed(1))},
		{"--1", list(ident("--1"))},
		{"+-1", list(delim("+"), signed(-1))},
		{"-->", list(alone(api.CDC))},
		{"--->", list(ident("---"), delim(">"))},
		{"a-->", list(ident("a--"), delim(">"))},
		{"--", list(ident("--"))},
		{"-- >", list(ident("--"), white, delim(">"))},
		{"->", list(delim("-"), delim(">"))},
		{"-a", list(ident("-a"))},
		{"-\u00e9", list(ident("-\u00e9"))},
		{"<!--", list(alone(api.CDO))},
		{"<!---->", list(alone(api.CDO), alone(api.CDC))},
		{"<!-", list(delim("<"), delim("!"), delim("-"))},
		{"<!", list(delim("<"), delim("!"))},
		{"<", list(delim("<"))},
		{"<a", list(delim("<"), ident("a"))},
	})
}

func TestNames(t *testing.T) { // P2.1 P2.3
	check(t, []one{
		{"a_-9Z", list(ident("a_-9Z"))},
		{"_", list(ident("_"))},
		{"\u0080\u00e9\U0001f600", list(ident("\u0080\u00e9\U0001f600"))},
		{"a.b", list(ident("a"), delim("."), ident("b"))},
		{"a\"", list(ident("a"), quoted(""))},
		{`\`, list(ident("\ufffd"))},
		{`a\`, list(ident("a\ufffd"))},
		{`-\`, list(ident("-\ufffd"))},
		{"\\\na", list(delim("\\"), white, ident("a"))},
		{"a\\\nb", list(ident("a"), delim("\\"), white, ident("b"))},
		{"-\\\n", list(delim("-"), delim("\\"), white)},
		{`\g\ \"\(`, list(ident(`g "(`))},
		{`\-`, list(ident("-"))},
		{`\2d\2d>`, list(ident("--"), delim(">"))},
		{`\31`, list(ident("1"))},
	})
}

func TestEscapes(t *testing.T) { // P2.1
	check(t, []one{
		{`\61 b`, list(ident("ab"))},
		{`\61  b`, list(ident("a"), white, ident("b"))},
		{"\\61\nb", list(ident("ab"))},
		{"\\61\tb", list(ident("ab"))},
		{`\61`, list(ident("a"))},
		{`\61 `, list(ident("a"))},
		{`\6g`, list(ident("\x06g"))},
		{`\000061b`, list(ident("ab"))},
		{`\0000611`, list(ident("a1"))},
		{`\aBcDe1`, list(ident("\uFFFD"))},
		{`\eBcD`, list(ident("\uEBCD"))},
		{`\0`, list(ident("\ufffd"))},
		{`\000000 a`, list(ident("\ufffda"))},
		{`\1`, list(ident("\x01"))},
		{`\d7ff\d800`, list(ident("\ud7ff\ufffd"))},
		{`\dfff\e000`, list(ident("\ufffd\ue000"))},
		{`\10ffff\110000`, list(ident("\U0010ffff\ufffd"))},
		{`\ffffff`, list(ident("\ufffd"))},
		{`\fffe`, list(ident("\ufffe"))},
		{"\\\u00e9", list(ident("\u00e9"))},
		{"\\\t", list(ident("\t"))},
		{"\\\r", list(ident("\r"))},
	})
}

func TestNumbers(t *testing.T) { // P2.2
	half := api.Token{Kind: api.Number, Sign: true}
	check(t, []one{
		{"0", list(whole(0))},
		{"007", list(whole(7))},
		{"-0", list(signed(0))},
		{"+12-3", list(signed(12), signed(-3))},
		{"1.5", list(broken)},
		{"1.0", list(broken)},
		{".5", list(broken)},
		{"+.5-.5-1.5", list(half, half, half)},
		{"1.", list(whole(1), delim("."))},
		{"1.a", list(whole(1), delim("."), ident("a"))},
		{"1.2.3", list(broken, broken)},
		{"1..2", list(whole(1), delim("."), broken)},
		{"1e3", list(broken)},
		{"1E3", list(broken)},
		{"1e+3 1e-3", list(broken, white, broken)},
		{"1.5e2", list(broken)},
		{".5e2", list(broken)},
		{"-1e3", list(half)},
		{"1e3.5", list(broken, broken)},
		{"2147483647 2147483648", list(whole(math.MaxInt32), white, whole(math.MaxInt32))},
		{"-2147483648 -2147483649", list(signed(math.MinInt32), white, signed(math.MinInt32))},
		{strings.Repeat("9", 1000), list(whole(math.MaxInt32))},
		{"\u0661", list(ident("\u0661"))},
	})
}

func TestNumbersOfThings(t *testing.T) { // P2.2
	count := func(text string, n int, sign bool) api.Token {
		return api.Token{Kind: api.Dimension, Text: text, Int: n, Whole: true, Sign: sign}
	}
	share := api.Token{Kind: api.Percentage, Int: 50, Whole: true}
	check(t, []one{
		{"1px", list(count("px", 1, false))},
		{"-1PX", list(count("PX", -1, true))},
		{"1.5em", list(of(api.Dimension, "em"))},
		{"1e", list(count("e", 1, false))},
		{"1e+", list(count("e", 1, false), delim("+"))},
		{"1e-", list(count("e-", 1, false))},
		{"1e-a", list(count("e-a", 1, false))},
		{"1e3e4", list(of(api.Dimension, "e4"))},
		{"1e3x", list(of(api.Dimension, "x"))},
		{"+3n", list(count("n", 3, true))},
		{"2n-1", list(count("n-1", 2, false))},
		{"2n+1", list(count("n", 2, false), signed(1))},
		{"1--", list(count("--", 1, false))},
		{"1-->", list(count("--", 1, false), delim(">"))},
		{"1-x", list(count("-x", 1, false))},
		{"1-", list(whole(1), delim("-"))},
		{"1-2", list(whole(1), signed(-2))},
		{`1\61`, list(count("a", 1, false))},
		{`1\65 3`, list(count("e3", 1, false))},
		{`1\`, list(count("\ufffd", 1, false))},
		{"1\\\n", list(whole(1), delim("\\"), white)},
		{"1px(", list(count("px", 1, false), open("("))},
		{"1url(a", list(count("url", 1, false), open("("), ident("a"))},
		{"50%", list(share)},
		{"50%%", list(share, delim("%"))},
		{"50 %", list(whole(50), white, delim("%"))},
		{"-1.5%", list(api.Token{Kind: api.Percentage, Sign: true})},
		{"50%a", list(share, ident("a"))},
	})
}

func TestFunctions(t *testing.T) { // P2.3
	check(t, []one{
		{"f(", list(function("f"))},
		{"F(a)", list(function("F"), ident("a"), closed(")"))},
		{"f((", list(function("f"), open("("))},
		{"f (", list(ident("f"), white, open("("))},
		{"f", list(ident("f"))},
		{"-f(", list(function("-f"))},
		{"--(", list(function("--"))},
		{`\66(`, list(function("f"))},
		{`f\(a`, list(ident("f(a"))},
		{"url", list(ident("url"))},
		{"url (a", list(ident("url"), white, open("("), ident("a"))},
		{"src(a", list(function("src"), ident("a"))},
		{"urls(a", list(function("urls"), ident("a"))},
		{"curl(a", list(function("curl"), ident("a"))},
		{`url("a")`, list(function("url"), quoted("a"), closed(")"))},
		{"Url('a'", list(function("Url"), quoted("a"))},
		{`url( "a" )`, list(function("url"), white, quoted("a"), white, closed(")"))},
		{"url(\n\t 'a'", list(function("url"), white, quoted("a"))},
		{`\75rl('a'`, list(function("url"), quoted("a"))},
	})
}

func TestAddresses(t *testing.T) { // P2.3
	check(t, []one{
		{"url(a)b", list(address("a"), ident("b"))},
		{"URL(a)", list(address("a"))},
		{"u\\52 l(a)", list(address("a"))},
		{"url()", list(address(""))},
		{"url(", list(address(""))},
		{"url(  ", list(address(""))},
		{"url(  )b", list(address(""), ident("b"))},
		{"url(a", list(address("a"))},
		{"url( \n a\t )b", list(address("a"), ident("b"))},
		{"url(a  ", list(address("a"))},
		{"url(a))", list(address("a"), closed(")"))},
		{"url(a ))", list(address("a"), closed(")"))},
		{"url(/**/a;b{c}[,:#@\u00e9)", list(address("/**/a;b{c}[,:#@\u00e9"))},
		{`url(\61\)\ \"\()`, list(address(`a) "(`))},
		{`url(\61 b)`, list(address("ab"))},
		{`url(\`, list(address("\ufffd"))},
		{`url( \29 )`, list(address(")"))},
		{"url(\u0080\u00a0\r\f)", list(address("\u0080\u00a0\r\f"))},
	})
}

func TestBadAddresses(t *testing.T) { // P2.3
	bad := alone(api.BadURL)
	all := []one{
		{"url(a b)c", list(bad, ident("c"))},
		{"url(a\nb", list(bad)},
		{"url(a b c)d)", list(bad, ident("d"), closed(")"))},
		{"url(a \")c", list(bad, ident("c"))},
		{`url(a"b")c`, list(bad, ident("c"))},
		{"url(a'b)c'", list(bad, ident("c"), quoted(""))},
		{"url(a(b)c)", list(bad, ident("c"), closed(")"))},
		{"url(()", list(bad)},
		{`url((\)b)c`, list(bad, ident("c"))},
		{`url((\29)c`, list(bad, ident("c"))},
		{`url(a \)b)c`, list(bad, ident("c"))},
		{`url(a" \"\)b)c`, list(bad, ident("c"))},
		{"url(\\\n)b", list(bad, ident("b"))},
		{"url(a\\\n\\)b)c", list(bad, ident("c"))},
		{"url(( \\\n)c", list(bad, ident("c"))},
		{`url((\`, list(bad)},
		{"url((", list(bad)},
		{"url(a b", list(bad)},
		{"url(a (/*)*/", list(bad, delim("*"), delim("/"))},
	}
	for r := range rune(0x80) {
		spoils := r <= 8 || r == 11 || r >= 14 && r <= 31 || r == 127 || strings.ContainsRune(`"'(`, r)
		in := "url(a" + string(r) + ")b"
		switch {
		case spoils:
			all = append(all, one{in, list(bad, ident("b"))})
		case !strings.ContainsRune("\t\n )\\", r):
			all = append(all, one{in, list(address("a"+string(r)), ident("b"))})
		}
	}
	check(t, all)
}

func TestInt(t *testing.T) { // P2.4
	for s, want := range map[string]int{
		"5": 5, "+5": 5, "-5": -5, "005": 5, "-0": 0, "1234567890": 1234567890,
		"": 0, "+": 0, "-": 0, "+-5": 0, "--5": 0, "5-": 0, "5x": 0, "x5": 0, " 5": 0, "5 ": 0, "1.5": 0, "1e3": 0, "5\x00": 0, "\u0665": 0, "5\xff": 0, "0x5": 0, "1_0": 0, "5/": 0, "5:": 0,
		"2147483646": math.MaxInt32 - 1, "2147483647": math.MaxInt32, "2147483648": math.MaxInt32, "+2147483648": math.MaxInt32,
		"-2147483647": math.MinInt32 + 1, "-2147483648": math.MinInt32, "-2147483649": math.MinInt32,
		"4294967296": math.MaxInt32, "-4294967295": math.MinInt32, "9223372036854775808": math.MaxInt32, "18446744073709551617": math.MaxInt32, "-18446744073709551617": math.MinInt32,
		strings.Repeat("0", 1000) + "7": 7, "99999999999999999999x": 0, "-99999999999999999999x": 0,
		strings.Repeat("9", 1000): math.MaxInt32, "-" + strings.Repeat("9", 1000): math.MinInt32,
	} {
		if got := token.Int(s); got != want {
			t.Errorf("Int(%.30q) = %d, want %d", s, got, want)
		}
	}
}

func TestSignsThatAreNone(t *testing.T) { // P2.1 P2.3
	for _, r := range []rune{-1, -2, math.MinInt32} {
		for _, c := range []struct {
			in   []rune
			want []api.Token
		}{
			{[]rune{r}, list(delim("\ufffd"))},
			{[]rune{r, 'a', r, 'b'}, list(delim("\ufffd"), ident("a"), delim("\ufffd"), ident("b"))},
			{[]rune{'"', r, 'a', '"', 'b'}, list(quoted("\ufffda"), ident("b"))},
			{[]rune{'"', '\\', r, '"', 'b'}, list(quoted("\ufffd"), ident("b"))},
			{[]rune{'\\', r, 'b'}, list(ident("\ufffdb"))},
			{[]rune{'/', '*', r, '*', '/', 'b'}, list(ident("b"))},
			{[]rune{'u', 'r', 'l', '(', ' ', r, ')', 'b'}, list(address("\ufffd"), ident("b"))},
			{[]rune{'u', 'r', 'l', '(', 'a', ' ', r, ')', 'b'}, list(alone(api.BadURL), ident("b"))},
			{[]rune{'u', 'r', 'l', '(', '(', r, ')', 'b'}, list(alone(api.BadURL), ident("b"))},
		} {
			if got := token.All(c.in); !slices.Equal(got, c.want) {
				t.Errorf("All(%d) = %v, want %v", c.in, got, c.want)
			}
		}
	}
	for _, r := range []rune{0xd800, 0xdfff, 0x110000, math.MaxInt32} {
		if got, want := token.All([]rune{r, 'a'}), list(ident("\ufffda")); !slices.Equal(got, want) {
			t.Errorf("All(%#x a) = %v, want %v", r, got, want)
		}
	}
}

// pieces is what sheets of every kind are laid together from.
const pieces = "a,e,n,u,r,l,url(,-,--,-->,<!--,/*,*/,\\,\n, ,\t,\",',(,),[,{,},#,@,.,+,1,9,%,\u00e9,\x00,\x7f,\U0010ffff,;,:"

func TestEverySheetEnds(t *testing.T) { // P2.1
	some := rand.New(rand.NewSource(2))
	parts := strings.Split(pieces, ",")
	for range 20000 {
		text := ""
		for range some.Intn(12) {
			text += parts[some.Intn(len(parts))]
		}
		signs := []rune(text)
		all := token.All(signs)
		if len(all) > len(signs) {
			t.Errorf("All(%q): %d tokens of %d signs", text, len(all), len(signs))
		}
		for _, x := range all {
			if x.Kind <= api.End || x.Kind > api.Close {
				t.Errorf("All(%q): kind %d", text, x.Kind)
			}
		}
		if !slices.Equal(all, token.All(signs)) {
			t.Errorf("All(%q) is not the same twice", text)
		}
	}
}

func TestLeavesSigns(t *testing.T) { // P2.5
	room := []rune("a{b:'c'}url(d)1px spare")
	given := room[:len(room)-6]
	before := slices.Clone(room)
	all := token.All(given)
	if !slices.Equal(room, before) {
		t.Errorf("All changed its signs: %q", string(room))
	}
	kept := slices.Clone(all)
	for i := range room {
		room[i] = 'x'
	}
	if !slices.Equal(all, kept) {
		t.Errorf("All keeps its signs: %v", all)
	}
	again := token.All(before[:len(given)])
	for i := range all {
		all[i] = api.Token{}
	}
	if !slices.Equal(again, kept) {
		t.Errorf("two answers of All share memory: %v", again)
	}
}
