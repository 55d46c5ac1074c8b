package anb_test

import (
	"fmt"
	"math"
	"math/big"
	"math/rand"
	"regexp"
	"strconv"
	"strings"
	"testing"

	"fleuron/anb"
	"fleuron/api"
	"fleuron/nest"
	"fleuron/points"
	"fleuron/token"
)

// nodes is a text's.
func nodes(s string) []api.Node { return nest.All(token.All(points.Read([]byte(s)))) }

// leaf is a node that is a token alone.
func leaf(t api.Token) api.Node { return api.Node{Token: t} }

// list is nodes of tokens.
func list(l ...api.Token) []api.Node {
	var all []api.Node
	for _, t := range l {
		all = append(all, leaf(t))
	}
	return all
}

var (
	white = api.Token{Kind: api.White}
	plus  = api.Token{Kind: api.Delim, Text: "+"}
	minus = api.Token{Kind: api.Delim, Text: "-"}
)

func ident(s string) api.Token { return api.Token{Kind: api.Ident, Text: s} }

// whole is a number without a sign, signed is one with it, counted is one with a unit.
func whole(n int) api.Token  { return api.Token{Kind: api.Number, Int: n, Whole: true} }
func signed(n int) api.Token { return api.Token{Kind: api.Number, Int: n, Whole: true, Sign: true} }
func counted(n int, unit string) api.Token {
	return api.Token{Kind: api.Dimension, Text: unit, Int: n, Whole: true}
}

// reads asks Parse of l for a and b.
func reads(t *testing.T, name string, l []api.Node, a, b int) {
	t.Helper()
	if x, y, e := anb.Parse(l); x != a || y != b || e != api.OK {
		t.Errorf("Parse(%s) = %d, %d, %d, want %d, %d, 0", name, x, y, e, a, b)
	}
}

// refuses asks Parse of l for ErrBad.
func refuses(t *testing.T, name string, l []api.Node) {
	t.Helper()
	if a, b, e := anb.Parse(l); a != 0 || b != 0 || e != api.ErrBad {
		t.Errorf("Parse(%s) = %d, %d, %d, want 0, 0, %d", name, a, b, e, api.ErrBad)
	}
}

func TestParseAlone(t *testing.T) { // P5.1
	for _, c := range []struct {
		in   string
		a, b int
	}{
		{"odd", 2, 1},
		{"even", 2, 0},
		{"OdD", 2, 1},
		{"EVEN", 2, 0},
		{"\\6f dd", 2, 1},
		{"o\\000064d", 2, 1},
		{"\\4f dd", 2, 1},
		{"5", 0, 5},
		{"0", 0, 0},
		{"-0", 0, 0},
		{"+5", 0, 5},
		{"-5", 0, -5},
		{"007", 0, 7},
		{"99999999999", 0, math.MaxInt32},
		{"-99999999999", 0, math.MinInt32},
	} {
		for _, in := range []string{c.in, " " + c.in, c.in + " ", "\t" + c.in + "\n", " /**/ " + c.in + " /**/ "} {
			reads(t, in, nodes(in), c.a, c.b)
		}
	}
}

// heads are what may stand ahead, each with its a, and with n as its unit.
var heads = []struct {
	in string
	a  int
}{
	{"n", 1},
	{"N", 1},
	{"\\6e ", 1},
	{"\\4E ", 1},
	{"-n", -1},
	{"-N", -1},
	{"\\2dn", -1},
	{"+n", 1},
	{"+/**/n", 1},
	{"+N", 1},
	{"0n", 0},
	{"1n", 1},
	{"+1n", 1},
	{"-1n", -1},
	{"2N", 2},
	{"+2n", 2},
	{"-2n", -2},
	{"007n", 7},
	{"2\\6e ", 2},
	{"99999999999n", math.MaxInt32},
	{"-99999999999n", math.MinInt32},
}

// tails are what may stand behind n, each with its b.
var tails = []struct {
	in string
	b  int
}{
	{"", 0},
	{"+1", 1},
	{"+0", 0},
	{"/**/-0", 0},
	{"/**/-1", -1},
	{" +1", 1},
	{" -1", -1},
	{" /**/ +1", 1},
	{"+ 1", 1},
	{" + 1", 1},
	{" - 1", -1},
	{"\t+\n01", 1},
	{" +/**/1", 1},
	{" -/**/1", -1},
	{" /**/ + /**/ 1", 1},
	{" - /**/ /**/ 1", -1},
	{"+99999999999", math.MaxInt32},
	{" -99999999999", math.MinInt32},
	{" - 99999999999", -math.MaxInt32},
	{"- 1", -1},
	{"-/**/1", -1},
	{"- /**/ 1", -1},
	{"- 0", 0},
	{"- 99999999999", -math.MaxInt32},
	{"-1", -1},
	{"-0", 0},
	{"-007", -7},
	{"\\2d\\31", -1},
	{"-\\31 2", -12},
	{"-2147483647", -math.MaxInt32},
	{"-2147483648", math.MinInt32},
	{"-2147483649", math.MinInt32},
	{"-99999999999999999999999999", math.MinInt32},
}

func TestParseSteps(t *testing.T) { // P5.1
	for _, h := range heads {
		for _, x := range tails {
			in := h.in + x.in
			reads(t, in, nodes(in), h.a, x.b)
			reads(t, "white and "+in, nodes("  "+in+"\n"), h.a, x.b)
		}
	}
}

func TestParseRefuses(t *testing.T) { // P5.1
	for _, in := range []string{
		"", " ", "/**/", "\n /**/ ",
		"a", "odd even", "odd odd", "odd 1", "1 odd", "odds", "+odd", "-odd", "+/**/even", "2odd", "odd+1", "o dd", "--odd",
		"5 5", "5/**/5", "5,", "5 +5", "1.5", "1.0", "5.", "1e3", "1e0", "+-5", "+ 5", "- 5", "-/**/5", "5%", "5px", "0x",
		"+", "-", "+ ", "+ n", "+/**/ n", "- n", "-/**/n", "--n", "+-n", "-+n", "++n", "+/**/2n", "-/**/2n", "+/**/-n", "+ 2n", "2-n", "2-n-1", "2 n", "2/**/n", "+2 n", "n n", "2.0n", "2e0n", ".5n", "1.5n+1", "x", "2x", " -", "*n", "!n",
		"nn", "2nn", "an", "2an", "\u00f1", "\uff4e", "2\u00f1", "\u212a",
		"n3", "n 3", "n/**/3", "2n3", "2n 3", "2n 3 3", "n n", "n,", ",n", "n;", "(n)", "[n]", "f(n)", "n()", "n(3)", "\"n\"", "'odd'", "#n", "#odd", "@n", ".n", "n.", "url(n)",
		"n+", "n +", "n + ", "n-", "2n-", "-n-", "n -", "n - ", "n- ", "n+ +", "n+n", "n + n", "n+3n", "n + 3n", "n- n", "n--", "n-\\-1",
		"n+-3", "n+ -3", "n + -3", "n + +3", "n - -3", "n - +3", "n--3", "n- -3", "n- +3", "n-/**/-3", "n+/**/+3", "n -/**/ +3", "n * 3", "n / 3", "n , 3", "n : 3", "n*3", "n = 3", "n ! 3",
		"n-3x", "n-x", "n-3-", "n-3-3", "n-3n", "n-\u0663", "n-3 4", "n-3 +4", "n-3 + 4", "n-/**/3 4", "n- 3 4", "n- 3 n", "n +3 4", "n+3 4", "n + 3 4", "n + 3 n", "n+3,", "n + 3 !", "2n-3 4",
		"n+1.5", "n + 1.5", "n- 1.5", "n-1.5", "n+1e1", "n + 1e1", "n-1e1", "n- 1e1", "n+1%", "n + 1%", "n- 1%", "n+1px", "n + 1px", "n + -", "n + odd", "n of",
	} {
		refuses(t, strconv.Quote(in), nodes(in))
	}
	refuses(t, "nil", nil)
}

func TestParseKids(t *testing.T) { // P5.1
	kid := func(t api.Token) api.Node { return api.Node{Token: t, Kids: list(whole(1))} }
	for name, l := range map[string][]api.Node{
		"odd":     {kid(ident("odd"))},
		"5":       {kid(whole(5))},
		"n":       {kid(ident("n"))},
		"2n":      {kid(counted(2, "n"))},
		"n-3":     {kid(ident("n-3"))},
		"+ n":     {kid(plus), leaf(ident("n"))},
		"n +3":    {leaf(ident("n")), kid(signed(3))},
		"n w +3":  {leaf(ident("n")), kid(white), leaf(signed(3))},
		"n - 3":   {leaf(ident("n")), kid(minus), leaf(whole(3))},
		"n - w 3": {leaf(ident("n")), leaf(minus), kid(white), leaf(whole(3))},
		"n- 3":    {leaf(ident("n-")), kid(whole(3))},
		"w odd w": {leaf(white), kid(ident("odd")), leaf(white)},
	} {
		refuses(t, name+" with kids", l)
	}
	reads(t, "White with kids at both ends", []api.Node{kid(white), leaf(ident("odd")), kid(white)}, 2, 1)
	reads(t, "empty Kids", []api.Node{{Token: ident("odd"), Kids: []api.Node{}}}, 2, 1)
}

func TestParseOddTokens(t *testing.T) { // P5.1
	broken := whole(3)
	broken.Whole = false
	for kind := -1; kind <= 21; kind++ {
		for _, text := range []string{"", "n", "-n", "odd", "n-3", "+", "-"} {
			named := kind == api.Ident && len(text) > 0 && text != "+" && text != "-"
			if counts := kind == api.Dimension && strings.HasPrefix(text, "n"); named || counts || kind == api.Number {
				continue
			}
			refuses(t, fmt.Sprintf("kind %d, %q", kind, text), list(api.Token{Kind: kind, Text: text, Int: 3, Whole: true}))
		}
		if kind != api.Delim && kind != api.White {
			refuses(t, fmt.Sprintf("n, kind %d, 3", kind), list(ident("n"), api.Token{Kind: kind, Text: "+"}, whole(3)))
			refuses(t, fmt.Sprintf("kind %d, n", kind), list(api.Token{Kind: kind, Text: "+"}, ident("n")))
		}
		if kind != api.Number && kind != api.White {
			refuses(t, fmt.Sprintf("n, +, kind %d", kind), list(ident("n"), plus, api.Token{Kind: kind, Int: 3, Whole: true}))
			refuses(t, fmt.Sprintf("n, kind %d", kind), list(ident("n"), api.Token{Kind: kind, Int: 3, Whole: true, Sign: true}))
		}
	}
	for _, text := range []string{"", "++", "+-", "*", " +"} {
		refuses(t, fmt.Sprintf("n, Delim %q, 3", text), list(ident("n"), api.Token{Kind: api.Delim, Text: text}, whole(3)))
	}
	for name, l := range map[string][]api.Node{
		"3 that is not whole":     list(broken),
		"n + 3 that is not whole": list(ident("n"), plus, broken),
		"n- 3 that is not whole":  list(ident("n-"), broken),
		"2n that is not whole":    list(api.Token{Kind: api.Dimension, Text: "n", Int: 2}),
		"an empty Ident":          list(ident("")),
		"an empty unit":           list(counted(2, "")),
		"bytes that are no signs": list(ident("n-\xff")),
	} {
		refuses(t, name, l)
	}
	reads(t, "numbers of many digits", list(counted(math.MinInt, "n"), signed(math.MaxInt)), math.MinInt, math.MaxInt)
}

// short is tokens in a form that a pattern can be held against.
func short(l []api.Node) string {
	s := ""
	for _, n := range l {
		switch t := n.Token; t.Kind {
		case api.White:
			s += "_ "
		case api.Delim:
			s += t.Text + " "
		case api.Ident:
			s += "ident:" + strings.ToLower(t.Text) + " "
		case api.Dimension:
			s += fmt.Sprintf("whole=%t:%d:%s ", t.Whole, t.Int, strings.ToLower(t.Text))
		case api.Number:
			s += fmt.Sprintf("number:%t:%t:%d ", t.Whole, t.Sign, t.Int)
		default:
			s += "other "
		}
	}
	return s
}

var (
	alone = regexp.MustCompile(`^(?:_ )*(?:ident:(odd|even)|number:true:(?:true|false):(-?\d+)) (?:_ )*$`)
	steps = regexp.MustCompile(`^(?:_ )*(?:whole=true:(-?\d+):|\+ ident:|ident:(-?))n(?: |(?: (?:_ )*number:true:true:(-?\d+) )|(?: (?:_ )*([+-]) (?:_ )*number:true:false:(\d+) )|(?:- (?:_ )*number:true:false:(\d+) )|(?:(-\d+) ))(?:_ )*$`)
)

// number is that of a text, or d if it is empty.
func number(s string, d int) int {
	if s == "" {
		return d
	}
	n, _ := strconv.Atoi(s)
	return n
}

// told is what the patterns have for a list.
func told(l []api.Node) (a, b int, ok bool) {
	s := short(l)
	if m := alone.FindStringSubmatch(s); m != nil {
		switch m[1] {
		case "odd":
			return 2, 1, true
		case "even":
			return 2, 0, true
		}
		return 0, number(m[2], 0), true
	}
	m := steps.FindStringSubmatch(s)
	if m == nil {
		return 0, 0, false
	}
	a = number(m[1], number(m[2]+"1", 1))
	return a, number(m[3], number(m[7], number(m[4]+m[5], -number(m[6], 0)))), true
}

func TestParseAllShortLists(t *testing.T) { // P5.1
	parts := strings.Split("odd|n|N-|n-2|-n|-N-|-n-12|+|-| |3|0|+3|-3|1.5|2n|-2n-|+2n-1|2.5n|nx|*", "|")
	var try func(s string, left int)
	count := 0
	try = func(s string, left int) {
		l := nodes(s)
		a, b, ok := told(l)
		if ok {
			count++
			reads(t, s, l, a, b)
		} else {
			refuses(t, s, l)
		}
		for _, p := range parts {
			if left > 0 {
				try(s+"/**/"+p, left-1)
			}
		}
	}
	try("", 4)
	try("n/**/ /**/", 3)
	try("2n/**/ /**/-/**/ /**/", 2)
	if count < 300 {
		t.Errorf("only %d lists were read", count)
	}
}

// one tells whether n is a x + b for an x of 0 or more, by numbers of any size.
func one(a, b, n int) bool {
	d := new(big.Int).Sub(big.NewInt(int64(n)), big.NewInt(int64(b)))
	if a == 0 {
		return d.Sign() == 0
	}
	x, rest := new(big.Int).QuoRem(d, big.NewInt(int64(a)), new(big.Int))
	return rest.Sign() == 0 && x.Sign() >= 0
}

// matches asks Match for what one tells.
func matches(t *testing.T, a, b, n int) {
	t.Helper()
	if got, want := anb.Match(a, b, n), one(a, b, n); got != want {
		t.Errorf("Match(%d, %d, %d) = %t", a, b, n, got)
	}
}

func TestMatch(t *testing.T) { // P5.2
	for _, c := range []struct {
		a, b int
		want []int
	}{
		{2, 1, []int{1, 3, 5, 7, 9}},
		{2, 0, []int{0, 2, 4, 6, 8}},
		{0, 3, []int{3}},
		{0, 0, []int{0}},
		{0, -3, []int{-3}},
		{1, 0, []int{0, 1, 2, 3, 4, 5, 6, 7, 8, 9}},
		{-1, 3, []int{-9, -8, -7, -6, -5, -4, -3, -2, -1, 0, 1, 2, 3}},
		{-2, 5, []int{-9, -7, -5, -3, -1, 1, 3, 5}},
		{3, -1, []int{-1, 2, 5, 8}},
		{-3, -1, []int{-7, -4, -1}},
		{5, 20, nil},
		{-5, -20, nil},
	} {
		for n := -9; n <= 9; n++ {
			want := false
			for _, x := range c.want {
				want = want || x == n
			}
			if got := anb.Match(c.a, c.b, n); got != want {
				t.Errorf("Match(%d, %d, %d) = %t", c.a, c.b, n, got)
			}
		}
	}
	for a := -7; a <= 7; a++ {
		for b := -9; b <= 9; b++ {
			for n := -25; n <= 25; n++ {
				matches(t, a, b, n)
			}
		}
	}
}

func TestMatchFar(t *testing.T) { // P5.2
	far := []int{0, 1, -1, 2, -2, 3, -3, 6, 7, math.MinInt32, math.MaxInt32}
	for d := range 4 {
		far = append(far, math.MinInt+d, math.MaxInt-d, math.MinInt/2+d, math.MaxInt/2-d, math.MinInt/3+d, math.MaxInt/3-d)
	}
	for _, a := range far {
		for _, b := range far {
			for _, n := range far {
				matches(t, a, b, n)
			}
		}
	}
	some := rand.New(rand.NewSource(5))
	for range 100000 {
		a, b, x := int(some.Uint64())>>some.Intn(64), int(some.Uint64())>>some.Intn(64), some.Intn(5)
		matches(t, a, b, b+a*x)
		matches(t, a, b, b-a*x)
		matches(t, a, b, int(some.Uint64()))
	}
}

func TestText(t *testing.T) { // P5.2
	for _, c := range []struct {
		a, b int
		want string
	}{
		{0, 0, "0"},
		{0, 5, "5"},
		{0, -5, "-5"},
		{1, 0, "1n"},
		{-1, 0, "-1n"},
		{2, 0, "2n"},
		{2, 1, "2n+1"},
		{2, -1, "2n-1"},
		{-2, 10, "-2n+10"},
		{-1, -20, "-1n-20"},
		{0, math.MinInt, "-9223372036854775808"},
		{0, math.MaxInt, "9223372036854775807"},
		{math.MinInt, math.MinInt, "-9223372036854775808n-9223372036854775808"},
		{math.MaxInt, math.MaxInt, "9223372036854775807n+9223372036854775807"},
		{math.MinInt, 0, "-9223372036854775808n"},
	} {
		if got := anb.Text(c.a, c.b); got != c.want {
			t.Errorf("Text(%d, %d) = %q, want %q", c.a, c.b, got, c.want)
		}
	}
	for a := -30; a <= 30; a++ {
		for b := -30; b <= 30; b++ {
			text := anb.Text(a, b)
			reads(t, text, nodes(text), a, b)
		}
	}
}

func TestLeavesNodes(t *testing.T) { // P5.3
	for _, s := range []string{" odd  ", " N - 3 ", "-n- 3", "2N-3", " n (a) ", "+n", "5", "x (y)"} {
		room := nodes(s + "spare")
		was := nodes(s + "spare")
		given := room[:len(room)-1]
		a, b, e := anb.Parse(given)
		if !nest.Same(room, was) {
			t.Errorf("Parse(%q) changed its nodes: %v", s, room)
		}
		if x, y, again := anb.Parse(given); x != a || y != b || again != e {
			t.Errorf("Parse(%q) is not the same twice: %d, %d, %d", s, x, y, again)
		}
		room[0].Token = ident("other")
		if x, y, again := anb.Parse(was[:len(was)-1]); x != a || y != b || again != e {
			t.Errorf("Parse(%q) keeps its nodes: %d, %d, %d", s, x, y, again)
		}
	}
}
