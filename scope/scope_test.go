package scope_test

import (
	"math"
	"reflect"
	"slices"
	"strconv"
	"testing"

	"fleuron/api"
	"fleuron/scope"
)

// c is a counter that is not Rev, r one that is.
func c(name string, of, n int) scope.Counter { return scope.Counter{Name: name, Of: of, N: n} }
func r(name string, of, n int) scope.Counter {
	return scope.Counter{Name: name, Of: of, N: n, Rev: true}
}

// set is some.
func set(l ...scope.Counter) scope.Set { return l }

// p is a pair of a name and a number.
func p(name string, n int) api.Pair { return api.Pair{Name: name, N: n} }

// same compares two; nil and an empty list are the same.
func same(a, b scope.Set) bool { return slices.Equal(a, b) }

// roomy is s with spare room behind it, that has something in it.
func roomy(s scope.Set) scope.Set {
	l := append(slices.Clone(s), r("spare", 77, 7), r("spare", 78, 8), r("spare", 79, 9))
	return l[:len(s)]
}

// intact tells whether l, made by roomy, is s still, and its spare room what it was.
func intact(l, s scope.Set) bool {
	return same(l[:len(s)+3], append(slices.Clone(s), r("spare", 77, 7), r("spare", 78, 8), r("spare", 79, 9)))
}

// spoil changes all of s, and its spare room.
func spoil(s scope.Set) {
	s = s[:cap(s)]
	for i := range s {
		s[i] = r("spoilt", -99, -99)
	}
}

// strange is numbers of all sizes.
func strange() []int {
	return []int{
		math.MinInt, math.MinInt + 1, math.MinInt32 - 1, math.MinInt32, math.MinInt32 + 1, -1 << 16, -2, -1, 0,
		1, 2, 1 << 16, math.MaxInt32 - 1, math.MaxInt32, math.MaxInt32 + 1, 1 << 32, 1<<32 + 1, math.MaxInt - 1, math.MaxInt,
	}
}

// begins asks Begin, and whether what it was handed in is as it was.
func begins(t *testing.T, parent, sibling, last, want scope.Set) {
	t.Helper()
	for _, siblings := range [][]int{nil, {}, {1}, {3, 2, 1, 9}} {
		a, b, d := roomy(parent), roomy(sibling), roomy(last)
		was := slices.Clone(siblings)
		got := scope.Begin(a, b, d, siblings)
		if !same(got, want) {
			t.Errorf("Begin(%v, %v, %v, %v):\n got %v\nwant %v", parent, sibling, last, siblings, got, want)
		}
		spoil(got)
		if !intact(a, parent) || !intact(b, sibling) || !intact(d, last) || !slices.Equal(siblings, was) {
			t.Errorf("Begin(%v, %v, %v, %v) changes what is handed in, or shares it", parent, sibling, last, was)
		}
	}
}

// resets asks Reset, likewise.
func resets(t *testing.T, s scope.Set, of int, siblings []int, q api.Pair, want scope.Set) {
	t.Helper()
	a, was := roomy(s), slices.Clone(siblings)
	got := scope.Reset(a, of, siblings, q)
	if !same(got, want) {
		t.Errorf("Reset(%v, %d, %v, %+v):\n got %v\nwant %v", s, of, siblings, q, got, want)
	}
	spoil(got)
	if !intact(a, s) || !slices.Equal(siblings, was) {
		t.Errorf("Reset(%v, %d, %v, %+v) changes what is handed in, or shares it", s, of, was, q)
	}
}

// counts asks Add or Put, likewise.
func counts(t *testing.T, name string, call func(scope.Set, int, api.Pair) scope.Set, s scope.Set, of int, q api.Pair, want scope.Set) {
	t.Helper()
	a := roomy(s)
	got := call(a, of, q)
	if !same(got, want) {
		t.Errorf("%s(%v, %d, %+v):\n got %v\nwant %v", name, s, of, q, got, want)
	}
	spoil(got)
	if !intact(a, s) {
		t.Errorf("%s(%v, %d, %+v) changes what is handed in, or shares it", name, s, of, q)
	}
}

func adds(t *testing.T, s scope.Set, of int, q api.Pair, want scope.Set) {
	t.Helper()
	counts(t, "Add", scope.Add, s, of, q, want)
}

func puts(t *testing.T, s scope.Set, of int, q api.Pair, want scope.Set) {
	t.Helper()
	counts(t, "Put", scope.Put, s, of, q, want)
}

// tells asks Value, Values, Pairs; without a number of the name there is none.
func tells(t *testing.T, s scope.Set, name string, want ...int) {
	t.Helper()
	a := roomy(s)
	last := 0
	if len(want) > 0 {
		last = want[len(want)-1]
	}
	if n, ok := scope.Value(a, name); n != last || ok != (len(want) > 0) {
		t.Errorf("Value(%v, %q) = %d, %t, want %d", s, name, n, ok, last)
	}
	if l := scope.Values(a, name); !slices.Equal(l, want) {
		t.Errorf("Values(%v, %q) = %v, want %v", s, name, l, want)
	}
	if !intact(a, s) {
		t.Errorf("Value or Values of %v, %q changes it", s, name)
	}
}

func TestBeginOfParent(t *testing.T) { // P15.1
	begins(t, nil, nil, nil, nil)
	begins(t, set(), set(), set(), nil)
	begins(t, set(c("a", 1, 5)), nil, nil, set(c("a", 1, 5)))
	begins(t, set(c("b", 2, 5), r("a", 1, 6), c("a", 2, 7)), nil, nil, set(c("b", 2, 5), r("a", 1, 6), c("a", 2, 7)))
	// all of them, those that are there twice too
	begins(t, set(c("a", 1, 5), c("a", 1, 6), c("a", 1, 5)), nil, nil, set(c("a", 1, 5), c("a", 1, 6), c("a", 1, 5)))
}

func TestBeginOfSibling(t *testing.T) { // P15.1
	begins(t, nil, set(c("b", 2, 5), r("a", 1, 6)), nil, set(c("b", 2, 5), r("a", 1, 6)))
	begins(t, set(c("a", 1, 5)), set(c("b", 1, 6)), nil, set(c("a", 1, 5), c("b", 1, 6)))
	// what is there already stays as parent has it: its place, N, Rev
	begins(t, set(c("a", 1, 5), c("b", 1, 6)), set(c("c", 3, 1), r("b", 1, 60), r("a", 1, 50), c("d", 3, 2)), nil, set(c("a", 1, 5), c("b", 1, 6), c("c", 3, 1), c("d", 3, 2)))
	// neither Name nor Of alone makes it the same
	begins(t, set(c("a", 1, 5)), set(c("a", 2, 6), c("b", 1, 7)), nil, set(c("a", 1, 5), c("a", 2, 6), c("b", 1, 7)))
	// nor do N and Rev make it another
	begins(t, nil, set(c("a", 2, 5), c("a", 2, 6), r("a", 2, 7), c("a", 3, 8)), nil, set(c("a", 2, 5), c("a", 3, 8)))
	begins(t, nil, set(r("a", 2, 7), c("a", 2, 5)), nil, set(r("a", 2, 7)))
}

func TestBeginOfLast(t *testing.T) { // P15.1
	begins(t, nil, nil, set(c("a", 1, 5)), nil)
	begins(t, set(c("a", 1, 5)), nil, set(c("a", 1, 6)), set(c("a", 1, 6)))
	begins(t, nil, set(c("a", 1, 5)), set(c("a", 1, 0)), set(c("a", 1, 0)))
	begins(t, set(c("a", 1, 5)), set(c("b", 2, 7)), set(c("b", 2, -7), c("a", 1, -5)), set(c("a", 1, -5), c("b", 2, -7)))
	// the last one of last
	begins(t, set(c("a", 1, 5)), nil, set(c("a", 1, 8), c("a", 1, 3), c("a", 2, 4)), set(c("a", 1, 3)))
	// of the same Name and Of
	begins(t, set(c("a", 1, 5)), nil, set(c("a", 2, 6), c("b", 1, 7), c("A", 1, 8), c("", 1, 9), c("a ", 1, 10)), set(c("a", 1, 5)))
	// N alone
	begins(t, set(c("a", 1, 5), r("b", 1, 5)), nil, set(r("a", 1, 6), c("b", 1, 7)), set(c("a", 1, 6), r("b", 1, 7)))
	// of all that are the same
	begins(t, set(c("a", 1, 5), c("a", 1, 6)), set(c("a", 1, 7)), set(c("a", 1, 8)), set(c("a", 1, 8), c("a", 1, 8)))
	// sibling's N is not parent's
	begins(t, set(c("a", 1, 5)), set(c("a", 1, 9)), nil, set(c("a", 1, 5)))
}

func TestBeginOfStrange(t *testing.T) { // P15.1
	for _, of := range strange() {
		for _, n := range strange() {
			begins(t, set(c("", of, 1)), set(c("\xff", of, n)), set(c("", of, n)), set(c("", of, n), c("\xff", of, n)))
		}
	}
}

func TestReset(t *testing.T) { // P15.2
	resets(t, nil, 1, nil, p("a", 4), set(c("a", 1, 4)))
	s := set(c("a", 1, 5), c("b", 1, 6), c("a", 2, 7), c("b", 3, 8))
	with := func(from, to int, x scope.Counter) scope.Set {
		return append(slices.Delete(slices.Clone(s), from, to), x)
	}
	// of another place: it stays
	resets(t, s, 9, nil, p("a", 4), with(0, 0, c("a", 9, 4)))
	resets(t, s, 9, []int{}, p("z", -4), with(0, 0, c("z", 9, -4)))
	// the place's own, or a sibling's: it is gone, and the new one is behind all
	resets(t, s, 2, nil, p("a", 4), with(2, 3, c("a", 2, 4)))
	resets(t, s, 9, []int{2}, p("a", 4), with(2, 3, c("a", 9, 4)))
	resets(t, s, 9, []int{8, 7, 2, 6}, p("a", 4), with(2, 3, c("a", 9, 4)))
	resets(t, s, 3, []int{3}, p("b", 8), with(3, 4, c("b", 3, 8)))
	// the innermost alone is asked
	resets(t, s, 1, nil, p("a", 4), with(0, 0, c("a", 1, 4)))
	resets(t, s, 9, []int{1}, p("b", 4), with(0, 0, c("b", 9, 4)))
	// and goes alone
	resets(t, s, 2, []int{1, 2, 3}, p("a", 4), with(2, 3, c("a", 2, 4)))
	resets(t, set(c("a", 1, 5), c("a", 1, 6)), 1, []int{1}, p("a", 7), set(c("a", 1, 5), c("a", 1, 7)))
	// of that Name
	resets(t, set(c("a", 1, 5), c("b", 1, 6)), 1, nil, p("A", 7), set(c("a", 1, 5), c("b", 1, 6), c("A", 1, 7)))
	resets(t, set(c("a", 1, 5), c("b", 1, 6)), 1, nil, p("", 7), set(c("a", 1, 5), c("b", 1, 6), c("", 1, 7)))
	resets(t, set(c("", 1, 5), c("b", 1, 6)), 1, nil, p("", 7), set(c("b", 1, 6), c("", 1, 7)))
}

func TestResetOfPair(t *testing.T) { // P15.2
	for _, n := range strange() {
		for _, was := range []scope.Set{nil, set(c("a", 1, 3)), set(r("a", 1, 3))} {
			resets(t, was, 1, nil, api.Pair{Name: "a", N: n}, set(c("a", 1, n)))
			resets(t, was, 1, nil, api.Pair{Name: "a", N: n, Rev: true}, set(r("a", 1, n)))
			resets(t, was, 1, nil, api.Pair{Name: "a", N: n, Auto: true}, set(c("a", 1, 0)))
			resets(t, was, 1, nil, api.Pair{Name: "a", N: n, Rev: true, Auto: true}, set(r("a", 1, 0)))
		}
		resets(t, set(c("a", n, 3)), n, nil, p("a", 4), set(c("a", n, 4)))
		resets(t, set(c("a", n, 3)), 5, []int{n}, p("a", 4), set(c("a", 5, 4)))
	}
}

func TestExample(t *testing.T) { // P15.2: reset twice by one place
	s := scope.Reset(scope.Reset(nil, 1, nil, p("a", 1)), 1, nil, p("a", 2))
	if !same(s, set(c("a", 1, 2))) {
		t.Errorf("reset twice: %v", s)
	}
}

func TestAdd(t *testing.T) { // P15.2
	s := set(c("a", 1, 5), c("b", 1, 6), c("a", 2, 7))
	adds(t, s, 9, p("a", 3), set(c("a", 1, 5), c("b", 1, 6), c("a", 2, 10)))
	adds(t, s, 1, p("a", -8), set(c("a", 1, 5), c("b", 1, 6), c("a", 2, -1)))
	adds(t, s, 9, p("b", 0), s)
	adds(t, s, 9, p("z", -3), append(slices.Clone(s), c("z", 9, -3)))
	adds(t, s, 9, p("A", 1), append(slices.Clone(s), c("A", 9, 1)))
	adds(t, nil, 1, p("a", 0), set(c("a", 1, 0)))
	adds(t, nil, -1, p("", 1), set(c("", -1, 1)))
	// Rev is the counter's, not the pair's
	rev := api.Pair{Name: "a", N: 2, Rev: true}
	adds(t, nil, 1, rev, set(c("a", 1, 2)))
	adds(t, set(c("a", 1, 5)), 1, rev, set(c("a", 1, 7)))
	adds(t, set(r("a", 1, 5)), 1, p("a", 2), set(r("a", 1, 7)))
	// Auto says nothing here
	auto := api.Pair{Name: "a", N: 2, Auto: true}
	adds(t, nil, 1, auto, set(c("a", 1, 2)))
	adds(t, set(c("a", 1, 5)), 1, auto, set(c("a", 1, 7)))
}

func TestAddHeld(t *testing.T) { // P15.2
	const most, least = math.MaxInt32, math.MinInt32
	for _, x := range []struct{ n, by, want int }{
		{most - 1, 1, most}, {0, most, most}, {-1, most + 1, most}, {least, most - least, most},
		{least + 1, -1, least}, {0, least, least}, {1, least - 1, least}, {most, least - most, least},
		{most, least, -1}, {least, most, -1}, {most, 0, most}, {least, 0, least},
		// one more leaves 32 digits: nothing is added
		{most, 1, most}, {most - 1, 2, most - 1}, {1, most, 1}, {0, most + 1, 0}, {most, most, most}, {least, most - least + 1, least},
		{least, -1, least}, {least + 1, -2, least + 1}, {-1, least, -1}, {0, least - 1, 0}, {least, least, least}, {most, least - most - 1, most},
		// nor is it if the last 32 digits alone would do
		{5, 1 << 32, 5}, {5, 1<<32 + 1, 5}, {5, -1 << 32, 5}, {5, 1 << 40, 5},
		{5, math.MaxInt, 5}, {-5, math.MaxInt, -5}, {least, math.MaxInt, least}, {most, math.MaxInt, most},
		{5, math.MinInt, 5}, {-5, math.MinInt, -5}, {most, math.MinInt, most}, {least, math.MinInt, least},
		// what was more than 32 digits by itself
		{math.MaxInt, 1, math.MaxInt}, {math.MaxInt, 0, math.MaxInt}, {math.MaxInt, math.MinInt, -1}, {math.MaxInt, math.MaxInt, math.MaxInt},
		{math.MinInt, -1, math.MinInt}, {math.MinInt, 0, math.MinInt}, {math.MinInt, math.MaxInt, -1}, {math.MinInt, math.MinInt, math.MinInt},
		{most + 1, -1, most}, {most + 1, 0, most + 1}, {least - 1, 1, least}, {least - 1, 0, least - 1},
	} {
		adds(t, set(c("a", 1, x.n)), 1, p("a", x.by), set(c("a", 1, x.want)))
		adds(t, set(c("a", 1, 3), c("b", 2, 4), r("a", 2, x.n), c("b", 3, 5)), 9, p("a", x.by), set(c("a", 1, 3), c("b", 2, 4), r("a", 2, x.want), c("b", 3, 5)))
	}
	// one that was made stays
	for _, n := range []int{most + 1, least - 1, 1 << 32, math.MaxInt, math.MinInt} {
		adds(t, nil, 1, p("a", n), set(c("a", 1, 0)))
		adds(t, set(c("b", 2, 4)), 1, p("a", n), set(c("b", 2, 4), c("a", 1, 0)))
	}
}

func TestPut(t *testing.T) { // P15.2
	s := set(c("a", 1, 5), c("b", 1, 6), c("a", 2, 7))
	puts(t, s, 9, p("a", -3), set(c("a", 1, 5), c("b", 1, 6), c("a", 2, -3)))
	puts(t, s, 1, p("a", 0), set(c("a", 1, 5), c("b", 1, 6), c("a", 2, 0)))
	puts(t, s, 9, p("b", 3), set(c("a", 1, 5), c("b", 1, 3), c("a", 2, 7)))
	puts(t, s, 9, p("z", 3), append(slices.Clone(s), c("z", 9, 3)))
	puts(t, s, 9, p("B", 3), append(slices.Clone(s), c("B", 9, 3)))
	puts(t, nil, 1, p("a", 0), set(c("a", 1, 0)))
	rev := api.Pair{Name: "a", N: 2, Rev: true}
	puts(t, nil, 1, rev, set(c("a", 1, 2)))
	puts(t, set(c("a", 1, 5)), 1, rev, set(c("a", 1, 2)))
	puts(t, set(r("a", 1, 5)), 1, p("a", 2), set(r("a", 1, 2)))
	puts(t, set(c("a", 1, 5)), 1, api.Pair{Name: "a", N: 2, Auto: true}, set(c("a", 1, 2)))
	for _, n := range strange() {
		puts(t, nil, n, p("", n), set(c("", n, n)))
		puts(t, set(c("a", n, 1)), 1, p("a", n), set(c("a", n, n)))
	}
}

func TestValues(t *testing.T) { // P15.3
	tells(t, nil, "a")
	tells(t, nil, "")
	s := set(c("a", 1, 5), c("b", 1, 6), c("", 4, -8), r("a", 2, 7), c("a", 1, 0))
	tells(t, s, "a", 5, 7, 0)
	tells(t, s, "b", 6)
	tells(t, s, "", -8)
	for _, name := range []string{"A", "c", "ab", " a", "a\x00", "\xff"} {
		tells(t, s, name)
	}
	for _, n := range strange() {
		tells(t, set(c("a", n, 1), c("\xff", 1, n)), "\xff", n)
	}
}

func TestPairs(t *testing.T) { // P15.3
	if l := scope.Pairs(nil); len(l) > 0 {
		t.Errorf("Pairs(nil) = %v", l)
	}
	s := set(c("b", 2, 5), r("a", 1, -6), c("", -1, math.MaxInt), c("b", 2, 5), r("b", 1, 0))
	want := []api.Pair{p("b", 5), {Name: "a", N: -6, Rev: true}, p("", math.MaxInt), p("b", 5), {Name: "b", Rev: true}}
	a := roomy(s)
	if l := scope.Pairs(a); !reflect.DeepEqual(l, want) {
		t.Errorf("Pairs(%v) = %v, want %v", s, l, want)
	}
	if !intact(a, s) {
		t.Errorf("Pairs(%v) changes it", s)
	}
}

func TestNotKept(t *testing.T) { // P15.4: what was answered stays when what was handed in changes
	s, sibling, last := set(c("a", 1, 5), r("b", 2, 6)), set(c("c", 3, 7)), set(c("a", 1, 8))
	siblings := []int{2}
	begin := scope.Begin(s, sibling, last, siblings)
	reset := scope.Reset(s, 4, siblings, p("b", 1))
	add := scope.Add(s, 4, p("b", 1))
	put := scope.Put(s, 4, p("b", 1))
	pairs, values := scope.Pairs(s), scope.Values(s, "a")
	for _, l := range []scope.Set{s, sibling, last} {
		spoil(l)
	}
	siblings[0] = 9
	for _, x := range [][2]scope.Set{
		{begin, set(c("a", 1, 8), r("b", 2, 6), c("c", 3, 7))},
		{reset, set(c("a", 1, 5), c("b", 4, 1))},
		{add, set(c("a", 1, 5), r("b", 2, 7))},
		{put, set(c("a", 1, 5), r("b", 2, 1))},
	} {
		if !same(x[0], x[1]) {
			t.Errorf("is %v, was %v", x[0], x[1])
		}
	}
	if !slices.Equal(pairs, []api.Pair{p("a", 5), {Name: "b", N: 6, Rev: true}}) || !slices.Equal(values, []int{5}) {
		t.Errorf("are %v, %v", pairs, values)
	}
}

func TestOwnMemory(t *testing.T) { // P15.4: two answers share nothing, not even when nothing is to be done
	s := roomy(set(c("a", 1, 5), r("b", 2, 6)))
	calls := []func() scope.Set{
		func() scope.Set { return scope.Begin(s, nil, nil, nil) },
		func() scope.Set { return scope.Begin(nil, s, nil, nil) },
		func() scope.Set { return scope.Reset(s, 2, nil, p("b", 6)) },
		func() scope.Set { return scope.Reset(s, 3, nil, p("c", 6)) },
		func() scope.Set { return scope.Add(s, 1, p("a", 0)) },
		func() scope.Set { return scope.Add(s, 1, p("c", 0)) },
		func() scope.Set { return scope.Put(s, 1, p("b", 6)) },
		func() scope.Set { return scope.Put(s, 1, p("c", 6)) },
	}
	for i, call := range calls {
		one, two := call(), call()
		was := slices.Clone(two)
		spoil(one)
		if !same(two, was) || !intact(s, set(c("a", 1, 5), r("b", 2, 6))) {
			t.Errorf("call %d: %v is %v", i, was, two)
		}
	}
}

// many is n counters, each of a name of its own.
func many(n, of int) scope.Set {
	var out scope.Set
	for i := range n {
		out = append(out, c("n"+strconv.Itoa(i), of, i))
	}
	return out
}

func TestMuch(t *testing.T) { // P15.1: more than a sheet and a table can make
	const n = 100000
	last := many(n, 2)
	slices.Reverse(last)
	s := scope.Begin(many(n, 1), many(n, 2), append(many(n, 1), last...), nil)
	if len(s) != 2*n || s[0] != c("n0", 1, 0) || s[2*n-1] != c("n99999", 2, n-1) {
		t.Errorf("%d counters, from %v to %v", len(s), s[0], s[len(s)-1])
	}
	if again := scope.Begin(s, s, s, nil); !same(again, s) {
		t.Errorf("%d counters instead of %d", len(again), len(s))
	}
}
