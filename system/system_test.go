package system_test

import (
	"fmt"
	"math"
	"math/big"
	"math/rand"
	"reflect"
	"slices"
	"strings"
	"testing"

	"fleuron/system"
)

// kinds are all systems' names, and some that are none.
var kinds = []string{"cyclic", "fixed", "symbolic", "alphabetic", "numeric", "additive", "extends", "", "Numeric", "cyclic ", "odd"}

// def is a style of symbols of one sign each, or, parted by blanks, of more.
func def(kind, symbols string) system.Def {
	return system.Def{System: kind, First: 1, Symbols: strings.Fields(symbols), Auto: true}
}

// added is an additive one.
func added(symbols string, weights ...int) system.Def {
	d := def("additive", symbols)
	d.Weights = weights
	return d
}

// begins is a fixed one that begins at first.
func begins(first int, symbols string) system.Def {
	d := def("fixed", symbols)
	d.First = first
	return d
}

// roman is the style of which everybody knows the numbers.
func roman() system.Def {
	return added("m cm d cd c xc l xl x ix v iv i", 1000, 900, 500, 400, 100, 90, 50, 40, 10, 9, 5, 4, 1)
}

// tells asks Signs of n for a text.
func tells(t *testing.T, d system.Def, n int, want string) {
	t.Helper()
	if got, ok := system.Signs(d, n); got != want || !ok {
		t.Errorf("Signs(%s %v, %d) = %q, %t, want %q", d.System, d.Symbols, n, got, ok, want)
	}
}

// none asks Signs of n for nothing.
func none(t *testing.T, d system.Def, n int) {
	t.Helper()
	if got, ok := system.Signs(d, n); got != "" || ok {
		t.Errorf("Signs(%s %v, %d) = %q, %t, want none", d.System, d.Symbols, n, got, ok)
	}
}

// may asks May for want.
func may(t *testing.T, name string, d system.Def, want bool) {
	t.Helper()
	if got := system.May(d); got != want {
		t.Errorf("May(%s) = %t", name, got)
	}
}

func TestMayOfSystems(t *testing.T) { // P9.1
	least := map[string]int{"cyclic": 1, "symbolic": 1, "fixed": 1, "alphabetic": 2, "numeric": 2}
	for _, k := range kinds {
		for n := range 70 {
			d := def(k, strings.Repeat("a ", n))
			want := least[k] > 0 && n >= least[k] && n <= 64 || k == "extends" && n == 0
			may(t, fmt.Sprintf("%q of %d symbols", k, n), d, want)
			d.Weights = []int{1}
			want = want && k != "extends" || k == "additive" && n == 1
			may(t, fmt.Sprintf("%q of %d symbols and a weight", k, n), d, want)
			if n == 0 {
				continue
			}
			d.Weights = make([]int, n)
			for i := range d.Weights {
				d.Weights[i] = n - 1 - i
			}
			want = n <= 64 && (n >= least[k] && least[k] > 0 || k == "additive")
			may(t, fmt.Sprintf("%q of %d symbols and weights", k, n), d, want)
		}
	}
	may(t, "nothing", system.Def{}, false)
	may(t, "empty lists", system.Def{System: "extends", Symbols: []string{}, Weights: []int{}, Range: [][2]int{}}, true)
	may(t, "a symbol that is empty", system.Def{System: "cyclic", Symbols: []string{""}}, true)
}

func TestMayOfWeights(t *testing.T) { // P9.1
	for _, c := range []struct {
		weights []int
		want    bool
	}{
		{[]int{3, 2, 1}, true},
		{[]int{2, 1, 0}, true},
		{[]int{math.MaxInt, 1, 0}, true},
		{[]int{2, 2, 1}, false},
		{[]int{3, 1, 1}, false},
		{[]int{0, 0, 0}, false},
		{[]int{1, 2, 3}, false},
		{[]int{3, 1, 2}, false},
		{[]int{2, 3, 1}, false},
		{[]int{1, 0, -1}, false},
		{[]int{-1, -2, -3}, false},
		{[]int{-1, 1, 0}, false},
		{[]int{math.MaxInt, 0, math.MinInt}, false},
		{[]int{3, 2}, false},
		{[]int{4, 3, 2, 1}, false},
		{nil, false},
	} {
		may(t, fmt.Sprintf("additive %v", c.weights), added("a b c", c.weights...), c.want)
	}
	may(t, "additive 0", added("a", 0), true)
	may(t, "additive -1", added("a", -1), false)
	may(t, "additive of nothing", added(""), false)
	fault := def("cyclic", "a b")
	fault.Weights = []int{-1, 5, 5}
	may(t, "cyclic with weights of no meaning", fault, true)
}

func TestMayOfTexts(t *testing.T) { // P9.1
	for _, kind := range []string{"cyclic", "extends"} {
		for name, set := range map[string]func(d *system.Def, s string){
			"Prefix":     func(d *system.Def, s string) { d.Prefix = s },
			"Suffix":     func(d *system.Def, s string) { d.Suffix = s },
			"Negative 0": func(d *system.Def, s string) { d.Negative[0] = s },
			"Negative 1": func(d *system.Def, s string) { d.Negative[1] = s },
			"PadSign":    func(d *system.Def, s string) { d.PadSign = s },
			"no limit":   func(d *system.Def, s string) { d.Name, d.Fallback, d.Extends = s, s, s },
			"a symbol": func(d *system.Def, s string) {
				if d.System != "extends" {
					d.Symbols = []string{"a", s, "b"}
				}
			},
		} {
			free := name == "no limit" || name == "a symbol" && kind == "extends"
			for _, sign := range []string{"x", "\u00e9", "\xff", "\U0001f600"} {
				for _, n := range []int{0, 99, 100, 101, 104, 5000} {
					n -= n % len(sign)
					d := def(kind, "")
					if kind == "cyclic" {
						d.Symbols = []string{"a"}
					}
					set(&d, strings.Repeat(sign, n/len(sign)))
					may(t, fmt.Sprintf("%s: %s of %d bytes", kind, name, n), d, free || n <= 100)
				}
			}
		}
	}
	long := strings.Repeat("x", 101)
	for _, at := range []int{0, 31, 63} {
		d := def("numeric", strings.Repeat("a ", 64))
		d.Symbols[at] = long
		may(t, fmt.Sprintf("symbol %d of 101 bytes", at), d, false)
	}
}

func TestMayOfPad(t *testing.T) { // P9.1
	for _, n := range []int{math.MinInt, -1, 0, 1, 199, 200, 201, 1 << 32, math.MaxInt} {
		d := def("cyclic", "a")
		d.Pad = n
		may(t, fmt.Sprintf("Pad %d", n), d, n >= 0 && n <= 200)
	}
}

func TestMayOfRange(t *testing.T) { // P9.1
	ends := []int{math.MinInt, math.MinInt32 - 1, math.MinInt32, -1, 0, 1, math.MaxInt32, math.MaxInt32 + 1, 1 << 32, math.MaxInt}
	for _, low := range ends {
		for _, high := range ends {
			want := low <= high && low >= math.MinInt32 && high <= math.MaxInt32
			bad := [2]int{low, high}
			for _, l := range [][][2]int{{bad}, {{0, 1}, bad}, {bad, {0, 1}}, {{5, 9}, bad, {-1, -1}}} {
				for _, auto := range []bool{true, false} {
					d := def("cyclic", "a")
					d.Auto, d.Range = auto, l
					may(t, fmt.Sprintf("Range %v", l), d, want)
				}
			}
		}
	}
	d := def("extends", "")
	d.Range = slices.Repeat([][2]int{{1, 2}}, 1000)
	may(t, "many of Range", d, true)
}

func TestSigns(t *testing.T) { // P9.2
	for _, c := range []struct {
		def  system.Def
		from int
		want string // a blank between each, - for none
	}{
		{def("cyclic", "a b c"), -4, "b c a b c a b c a b"},
		{def("cyclic", "a"), -2, "a a a a a"},
		{begins(1, "a b c"), -1, "- - a b c - -"},
		{begins(0, "a b c"), -1, "- a b c - -"},
		{begins(-3, "a b c"), -4, "- a b c - -"},
		{begins(7, "a"), 6, "- a -"},
		{def("symbolic", "a b c"), -1, "- - a b c aa bb cc aaa bbb ccc aaaa"},
		{def("symbolic", "*"), -1, "- - * ** *** ****"},
		{def("alphabetic", "a b"), -1, "- - a b aa ab ba bb aaa aab aba abb baa bab bba bbb aaaa"},
		{def("alphabetic", "a b c"), 1, "a b c aa ab ac ba bb bc ca cb cc aaa"},
		{def("numeric", "0 1"), -1, "- 0 1 10 11 100 101 110 111 1000"},
		{def("numeric", "a b c"), 0, "a b c ba bb bc ca cb cc baa"},
		{roman(), -1, "- - i ii iii iv v vi vii viii ix x xi xii xiii xiv xv"},
		{added("c a 0", 3, 2, 0), -1, "- 0 - a c - ca cc - cca ccc"},
		{added("b a", 2, 1), -1, "- - a b ba bb bba"},
		{added("0", 0), -1, "- 0 - -"},
		{added("a", 5), 0, "- - - - - a - - - - aa -"},
		{added("b a", 7, 5), 0, "- - - - - a - b - - - - ba - bb"},
		{def("extends", ""), -1, "- - -"},
	} {
		for i, want := range strings.Fields(c.want) {
			if want == "-" {
				none(t, c.def, c.from+i)
			} else {
				tells(t, c.def, c.from+i, want)
			}
		}
	}
	tells(t, roman(), 1994, "mcmxciv")
	tells(t, roman(), 3999, "mmmcmxcix")
	tells(t, def("alphabetic", "a b c d e f g h i j k l m n o p q r s t u v w x y z"), 27, "aa")
}

func TestSignsOfLongSymbols(t *testing.T) { // P9.2
	tells(t, def("cyclic", "\u03b1\u03b2 \u03b3"), 3, "\u03b1\u03b2")
	tells(t, def("numeric", "zero one"), 5, "onezeroone")
	tells(t, def("symbolic", "<> []"), 4, "[][]")
	tells(t, def("alphabetic", "\u03b1 \xff"), 5, "\xff\u03b1")
	tells(t, system.Def{System: "cyclic", Symbols: []string{""}}, 5, "")
	tells(t, system.Def{System: "numeric", Symbols: []string{"", "x"}}, 5, "xx")
	tells(t, system.Def{System: "numeric", Symbols: []string{"", ""}}, 5, "")
	long := strings.Repeat("x", 100)
	tells(t, def("symbolic", long), 60, strings.Repeat(long, 60))
	full := def("numeric", strings.Repeat("a ", 62)+"y z")
	tells(t, full, 63, "z")
	tells(t, full, 64*62+63, "yz")
}

func TestSignsAtLimit(t *testing.T) { // P9.2
	for n := 1; n <= 200; n++ {
		for _, k := range []int{1, 2, 3, 64} {
			d := def("symbolic", strings.Repeat("x ", k))
			if often := (n + k - 1) / k; often <= 60 {
				tells(t, d, n, strings.Repeat("x", often))
			} else {
				none(t, d, n)
			}
		}
		tens, ones := n/10, n%10
		if tens+ones <= 60 {
			tells(t, added("x i", 10, 1), n, strings.Repeat("x", tens)+strings.Repeat("i", ones))
		} else {
			none(t, added("x i", 10, 1), n)
		}
	}
	tells(t, added("x i", 10, 1), 519, strings.Repeat("x", 51)+strings.Repeat("i", 9))
	none(t, added("x i", 10, 1), 529)
	tells(t, added("x i", 10, 1), 600, strings.Repeat("x", 60))
	none(t, added("x i", 10, 1), 601)
	none(t, added("x i", 10, 1), 610)
	tells(t, def("symbolic", strings.Repeat("x ", 64)), 60*64, strings.Repeat("x", 60))
	none(t, def("symbolic", strings.Repeat("x ", 64)), 60*64+1)
}

func TestSignsFar(t *testing.T) { // P9.2
	const most = 1 << 31
	for _, n := range []int{math.MinInt32 - 1, most + 1, 1<<32 + 1, -1 << 32, 1<<32 - 1, math.MinInt, math.MaxInt} {
		for _, d := range []system.Def{def("cyclic", "a"), begins(n, "a b"), begins(n-1, "a b"), def("symbolic", "a"), def("alphabetic", "a b"), def("numeric", "0 1"), roman(), def("extends", "")} {
			none(t, d, n)
		}
	}
	tells(t, def("cyclic", "a b c"), -most, "a")
	tells(t, def("cyclic", "a b c"), most, "b")
	tells(t, def("cyclic", "a b c d"), -most, "d")
	tells(t, def("numeric", "0 1 2 3 4 5 6 7 8 9"), most, "2147483648")
	tells(t, def("numeric", "0 1 2 3 4 5 6 7 8 9 a b c d e f"), most, "80000000")
	tells(t, def("numeric", "0 1"), most, "1"+strings.Repeat("0", 31))
	tells(t, def("alphabetic", "a b"), most, strings.Repeat("a", 30)+"b")
	tells(t, def("alphabetic", "a b"), most-1, strings.Repeat("a", 31))
	tells(t, added("x", most), most, "x")
	tells(t, added("x", most/60+1), (most/60+1)*59, strings.Repeat("x", 59))
	tells(t, added("x i", math.MaxInt, 1), 5, "iiiii")
	tells(t, added("y x i", 1<<32+1, 1<<32, 1), 1, "i")
	for _, kind := range []string{"symbolic", "alphabetic", "numeric"} {
		none(t, def(kind, "a b"), -most)
	}
	none(t, def("symbolic", "a b"), most)
	none(t, roman(), most)
	none(t, roman(), -most)
	none(t, added("x", 1<<32+1), 1)
}

func TestSignsOfFixedFar(t *testing.T) { // P9.2
	const most = 1 << 31
	tells(t, begins(-most, "a b"), -most, "a")
	tells(t, begins(-most-1, "a b"), -most, "b")
	tells(t, begins(most, "a b"), most, "a")
	tells(t, begins(most-1, "a b"), most, "b")
	for _, first := range []int{math.MinInt, math.MinInt + 1, math.MaxInt, math.MaxInt - 1, 1 << 32, -1 << 32, math.MinInt + most, math.MaxInt - most} {
		for _, n := range []int{-most, -2, -1, 0, 1, 2, most} {
			none(t, begins(first, "a b"), n)
		}
	}
}

func TestSignsOfWhatMayNotBe(t *testing.T) { // P9.2
	for _, k := range kinds {
		d := def(k, "a b")
		d.Weights = []int{2, 1}
		tried := []func(d *system.Def){
			func(d *system.Def) { d.Symbols = nil },
			func(d *system.Def) { d.Symbols = slices.Repeat([]string{"a"}, 65) },
			func(d *system.Def) { d.Symbols[1] = strings.Repeat("a", 101) },
			func(d *system.Def) { d.Prefix = strings.Repeat("a", 101) },
			func(d *system.Def) { d.Pad = -1 },
			func(d *system.Def) { d.Pad = 201 },
			func(d *system.Def) { d.Range = [][2]int{{2, 1}} },
		}
		switch k {
		case "alphabetic", "numeric":
			tried = append(tried, func(d *system.Def) { d.Symbols = d.Symbols[:1] })
		case "additive":
			tried = append(tried, func(d *system.Def) { d.Weights[1] = 2 }, func(d *system.Def) { d.Weights = d.Weights[:1] })
		}
		for _, fault := range tried {
			one := d
			one.Symbols, one.Weights = slices.Clone(d.Symbols), slices.Clone(d.Weights)
			fault(&one)
			for _, n := range []int{-1, 0, 1, 2, 3} {
				none(t, one, n)
			}
		}
	}
}

// value is what the digits of a row of symbols (one byte each) make to their base; each digit is its place, and more.
func value(row string, symbols []string, more int64) *big.Int {
	v, base := new(big.Int), big.NewInt(int64(len(symbols)))
	for i := range len(row) {
		v.Mul(v, base)
		v.Add(v, big.NewInt(int64(slices.Index(symbols, row[i:i+1]))+more))
	}
	return v
}

// some is n numbers from 0 to 2^31, of all lengths.
func some(r *rand.Rand, n int) []int {
	l := []int{0, 1, 2, 1<<31 - 2, 1<<31 - 1, 1 << 31}
	for range n {
		l = append(l, int(r.Uint32()>>1)>>r.Intn(31))
	}
	return l
}

func TestDigitsMakeTheirNumber(t *testing.T) { // P9.2
	const signs = "0123456789abcdefghijklmnopqrstuvwxyzABCDEFGHIJKLMNOPQRSTUVWXYZ+/"
	r := rand.New(rand.NewSource(9))
	for k := 2; k <= 64; k++ {
		symbols := strings.Split(signs[:k], "")
		by := system.Def{System: "numeric", Symbols: symbols}
		as := system.Def{System: "alphabetic", Symbols: symbols}
		for _, n := range some(r, 500) {
			want := big.NewInt(int64(n))
			row, ok := system.Signs(by, n)
			if !ok || value(row, symbols, 0).Cmp(want) != 0 || row[0] == '0' && n > 0 || row == "" {
				t.Fatalf("numeric of %d symbols: %d is %q, %t", k, n, row, ok)
			}
			row, ok = system.Signs(as, n)
			if ok != (n > 0) || value(row, symbols, 1).Cmp(want) != 0 {
				t.Fatalf("alphabetic of %d symbols: %d is %q, %t", k, n, row, ok)
			}
		}
	}
}

func TestPlacesOfCyclicAndSymbolic(t *testing.T) { // P9.2
	r := rand.New(rand.NewSource(92))
	for k := 1; k <= 64; k++ {
		symbols := make([]string, k)
		for i := range symbols {
			symbols[i] = string(rune(0x3b1 + i))
		}
		for _, n := range some(r, 300) {
			for _, n := range []int{n, -n} {
				at := new(big.Int).Mod(big.NewInt(int64(n)-1), big.NewInt(int64(k))).Int64()
				tells(t, system.Def{System: "cyclic", Symbols: symbols}, n, symbols[at])
				d, often := system.Def{System: "symbolic", Symbols: symbols}, (n+k-1)/k
				if n >= 1 && often <= 60 {
					tells(t, d, n, strings.Repeat(symbols[at], often))
				} else {
					none(t, d, n)
				}
			}
		}
	}
}

// greedy is the promise's words for additive, with lists as long as they get.
func greedy(d system.Def, n int) (string, bool) {
	if at := slices.Index(d.Weights, 0); n == 0 && at >= 0 {
		return d.Symbols[at], true
	}
	row, count := "", 0
	for i, w := range d.Weights {
		for w > 0 && n >= w {
			row, n, count = row+d.Symbols[i], n-w, count+1
		}
	}
	return row, n == 0 && count > 0 && count <= 60
}

func TestSumsAreGreedy(t *testing.T) { // P9.2
	r := rand.New(rand.NewSource(93))
	told := 0
	for range 2000 {
		weights := map[int]int{}
		for range 1 + r.Intn(6) {
			weights[r.Intn(1+r.Intn(100))] = 1
		}
		d := system.Def{System: "additive"}
		for w := 100; w >= 0; w-- {
			if weights[w] > 0 {
				d.Weights = append(d.Weights, w)
				d.Symbols = append(d.Symbols, string(rune('A'+len(d.Symbols))))
			}
		}
		for n := range 300 {
			if want, ok := greedy(d, n); ok {
				told++
				tells(t, d, n, want)
			} else {
				none(t, d, n)
			}
		}
	}
	if told < 10000 {
		t.Errorf("only %d numbers had signs", told)
	}
}

func TestInAuto(t *testing.T) { // P9.3
	for _, k := range kinds {
		for _, n := range []int{math.MinInt, math.MinInt32 - 1, math.MinInt32, -2, -1, 0, 1, 2, math.MaxInt32, 1 << 31, math.MaxInt} {
			want := false
			switch k {
			case "cyclic", "numeric", "fixed":
				want = true
			case "alphabetic", "symbolic":
				want = n > 0
			case "additive":
				want = n >= 0
			}
			for _, d := range []system.Def{{System: k, Auto: true}, def(k, "a b"), {System: k, Auto: true, Range: [][2]int{{5, 5}, {-5, -5}}}} {
				if got := system.In(d, n); got != want {
					t.Errorf("In(%q, Auto, %d) = %t", k, n, got)
				}
			}
		}
	}
}

func TestInRange(t *testing.T) { // P9.3
	for _, c := range []struct {
		l    [][2]int
		want []int // of -9 to 9
	}{
		{nil, nil},
		{[][2]int{}, nil},
		{[][2]int{{3, 3}}, []int{3}},
		{[][2]int{{-1, 1}}, []int{-1, 0, 1}},
		{[][2]int{{-5, -3}, {2, 2}, {7, 8}}, []int{-5, -4, -3, 2, 7, 8}},
		{[][2]int{{7, 8}, {2, 4}, {3, 5}}, []int{2, 3, 4, 5, 7, 8}},
		{[][2]int{{2, 1}, {5, 5}}, []int{5}},
		{[][2]int{{math.MinInt32, -7}, {8, math.MaxInt32}}, []int{-9, -8, -7, 8, 9}},
	} {
		for _, k := range kinds {
			d := system.Def{System: k, Range: c.l}
			for n := -9; n <= 9; n++ {
				if got := system.In(d, n); got != slices.Contains(c.want, n) {
					t.Errorf("In(%q %v, %d) = %t", k, c.l, n, got)
				}
			}
		}
	}
	all := system.Def{System: "symbolic", Range: [][2]int{{math.MinInt32, math.MaxInt32}}}
	for _, n := range []int{math.MinInt, math.MinInt32 - 1, math.MinInt32, math.MaxInt32, math.MaxInt32 + 1, 1 << 32, math.MaxInt} {
		if got := system.In(all, n); got != (n >= math.MinInt32 && n <= math.MaxInt32) {
			t.Errorf("In(all of 32 digits, %d) = %t", n, got)
		}
	}
}

func TestUses(t *testing.T) { // P9.3
	for _, k := range kinds {
		signed := slices.Contains([]string{"symbolic", "alphabetic", "numeric", "additive"}, k)
		for _, n := range []int{math.MinInt, math.MinInt32, -1, 0, 1, math.MaxInt32, math.MaxInt} {
			for _, d := range []system.Def{{System: k}, def(k, "a b"), {System: k, Negative: [2]string{"(", ")"}}} {
				if got := system.Uses(d, n); got != (signed && n < 0) {
					t.Errorf("Uses(%q, %d) = %t", k, n, got)
				}
			}
		}
	}
}

func TestUnlikeNumbersUnlikeSigns(t *testing.T) { // P9.4
	for _, k := range []string{"numeric", "alphabetic"} {
		for _, symbols := range []string{"a b", "b a c", "0 1 2 3 4 5 6 7 8 9"} {
			d := def(k, symbols)
			seen := map[string]int{}
			for n := range 20000 {
				row, ok := system.Signs(d, n)
				if !ok {
					continue
				}
				if m, again := seen[row]; again {
					t.Fatalf("%s %q: %d and %d are both %q", k, symbols, m, n, row)
				}
				seen[row] = n
			}
			if len(seen) < 19999 {
				t.Errorf("%s %q: only %d numbers have signs", k, symbols, len(seen))
			}
		}
	}
}

// full is a style with something everywhere, and with spare room behind its lists.
func full(kind string) system.Def {
	return system.Def{
		Name: "x", System: kind, First: 2, Symbols: []string{"a", "b", "c", "spare"}[:3], Weights: []int{5, 3, 1, 99}[:3],
		Negative: [2]string{"(", ")"}, Prefix: "<", Suffix: ">", Range: [][2]int{{-9, 1}, {3, 4}, {7, 7}}[:2],
		Pad: 3, PadSign: "0", Fallback: "y", Extends: "z", Said: 63,
	}
}

// told is all that the calls answer of d.
func told(d system.Def) []any {
	l := []any{system.May(d)}
	for n := -5; n <= 20; n++ {
		text, ok := system.Signs(d, n)
		l = append(l, text, ok, system.In(d, n), system.Uses(d, n))
	}
	return l
}

func TestLeavesStyles(t *testing.T) { // P9.4
	for _, k := range kinds {
		d, was := full(k), full(k)
		before := told(d)
		if !reflect.DeepEqual(d, was) || !slices.Equal(d.Symbols[:4], was.Symbols[:4]) || !slices.Equal(d.Weights[:4], was.Weights[:4]) || !slices.Equal(d.Range[:3], was.Range[:3]) {
			t.Errorf("%q: the style was changed: %v", k, d)
		}
		d.Symbols[0], d.Weights[0], d.Range[0] = "other", 9, [2]int{0, 0}
		told(d)
		if again := told(was); !reflect.DeepEqual(before, again) {
			t.Errorf("%q: a style was kept: %v, then %v", k, before, again)
		}
	}
}
