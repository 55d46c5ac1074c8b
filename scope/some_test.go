package scope_test

import (
	"math/big"
	"math/rand"
	"slices"
	"testing"

	"fleuron/api"
	"fleuron/scope"
)

// maker makes counters by chance.
type maker struct {
	*rand.Rand
}

// name is one of a few.
func (m maker) name() string { return []string{"a", "b", "c", "list-item", ""}[m.Intn(5)] }

// n is a number, sometimes a great one.
func (m maker) n() int {
	if m.Intn(4) == 0 {
		l := strange()
		return l[m.Intn(len(l))]
	}
	return m.Intn(21) - 10
}

// of is a place.
func (m maker) of() int { return m.Intn(6) - 1 }

// set is some counters.
func (m maker) set() scope.Set {
	var out scope.Set
	for range m.Intn(9) {
		out = append(out, scope.Counter{Name: m.name(), Of: m.of(), N: m.n(), Rev: m.Intn(3) == 0})
	}
	return out
}

// places is some.
func (m maker) places() []int {
	var out []int
	for range m.Intn(4) {
		out = append(out, m.of())
	}
	return out
}

// pair is one.
func (m maker) pair() api.Pair {
	return api.Pair{Name: m.name(), N: m.n(), Rev: m.Intn(3) == 0, Auto: m.Intn(4) == 0}
}

// begin is Begin, word by word.
func begin(parent, sibling, last scope.Set) scope.Set {
	var out scope.Set
	out = append(out, parent...)
	for _, x := range sibling {
		if !slices.ContainsFunc(out, func(y scope.Counter) bool { return x.Name == y.Name && x.Of == y.Of }) {
			out = append(out, x)
		}
	}
	for i := range out {
		for _, y := range last {
			if out[i].Name == y.Name && out[i].Of == y.Of {
				out[i].N = y.N
			}
		}
	}
	return out
}

// inner is where the last one of a name is, len(s) without one.
func inner(s scope.Set, name string) int {
	at := len(s)
	for i, x := range s {
		if x.Name == name {
			at = i
		}
	}
	return at
}

// reset is Reset, word by word.
func reset(s scope.Set, of int, siblings []int, q api.Pair) scope.Set {
	var out scope.Set
	at := inner(s, q.Name)
	for i, x := range s {
		if i != at || x.Of != of && !slices.Contains(siblings, x.Of) {
			out = append(out, x)
		}
	}
	n := q.N
	if q.Auto {
		n = 0
	}
	return append(out, scope.Counter{Name: q.Name, Of: of, N: n, Rev: q.Rev})
}

// made is s with one of the name.
func made(s scope.Set, of int, name string) scope.Set {
	if inner(s, name) == len(s) {
		return reset(s, of, nil, api.Pair{Name: name})
	}
	return slices.Clone(s)
}

// add is Add, word by word.
func add(s scope.Set, of int, q api.Pair) scope.Set {
	out := made(s, of, q.Name)
	x := &out[inner(out, q.Name)]
	sum := new(big.Int).Add(big.NewInt(int64(x.N)), big.NewInt(int64(q.N)))
	if sum.Cmp(big.NewInt(1<<31-1)) <= 0 && sum.Cmp(big.NewInt(-1<<31)) >= 0 {
		x.N = int(sum.Int64())
	}
	return out
}

// put is Put, word by word.
func put(s scope.Set, of int, q api.Pair) scope.Set {
	out := made(s, of, q.Name)
	out[inner(out, q.Name)].N = q.N
	return out
}

func TestSomeOfAllKinds(t *testing.T) { // P15.1 to P15.4
	m := maker{rand.New(rand.NewSource(15))}
	for range 30000 {
		parent, sibling, last := m.set(), m.set(), m.set()
		begins(t, parent, sibling, last, begin(parent, sibling, last))
		of, siblings, q := m.of(), m.places(), m.pair()
		resets(t, parent, of, siblings, q, reset(parent, of, siblings, q))
		adds(t, parent, of, q, add(parent, of, q))
		puts(t, parent, of, q, put(parent, of, q))
		var values []int
		for _, x := range parent {
			if x.Name == q.Name {
				values = append(values, x.N)
			}
		}
		tells(t, parent, q.Name, values...)
		pairs := scope.Pairs(parent)
		if len(pairs) != len(parent) {
			t.Errorf("Pairs(%v) = %v", parent, pairs)
		}
		for i, x := range pairs {
			if y := parent[i]; x != (api.Pair{Name: y.Name, N: y.N, Rev: y.Rev}) {
				t.Errorf("Pairs(%v) = %v", parent, pairs)
			}
		}
		if t.Failed() {
			return
		}
	}
}

func TestSomeWalk(t *testing.T) { // P15.1 to P15.3: one answer handed in to the next call, as a walk does
	m := maker{rand.New(rand.NewSource(51))}
	for range 300 {
		parent, sibling, last := m.set(), m.set(), m.set()
		want := [3]scope.Set{parent, sibling, last}
		for of := range 30 {
			q := m.pair()
			siblings := m.places()
			s, w := scope.Begin(parent, sibling, last, siblings), begin(want[0], want[1], want[2])
			s, w = scope.Reset(s, of, siblings, q), reset(w, of, siblings, q)
			q = m.pair()
			s, w = scope.Add(s, of, q), add(w, of, q)
			q = m.pair()
			s, w = scope.Put(s, of, q), put(w, of, q)
			last, want[2] = s, w
			if m.Intn(3) == 0 {
				parent, want[0], sibling, want[1] = s, w, nil, nil
			} else {
				sibling, want[1] = s, w
			}
			if !same(s, w) || !same(parent, want[0]) || !same(sibling, want[1]) {
				t.Fatalf("step %d: %v, %v, %v, want %v, %v", of, s, parent, sibling, w, want)
			}
		}
	}
}
