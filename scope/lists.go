package scope

import (
	"slices"

	"fleuron/api"
)

// identity is what tells counters of two places to be one.
type identity struct {
	name string
	of   int
}

// which is c's.
func which(c Counter) identity { return identity{c.Name, c.Of} }

// numbers is N of the last one of each identity.
func numbers(s Set) map[identity]int {
	out := make(map[identity]int, len(s))
	for _, c := range s {
		out[which(c)] = c.N
	}
	return out
}

// joined is those of parent, and those of sibling that are not there so far.
func joined(parent, sibling Set) Set {
	out := slices.Clone(parent)
	there := numbers(parent)
	for _, c := range sibling {
		if _, ok := there[which(c)]; !ok {
			there[which(c)] = c.N
			out = append(out, c)
		}
	}
	return out
}

// innermost is where the innermost of a name is, -1 without one.
func innermost(s Set, name string) int {
	for i := len(s) - 1; i >= 0; i-- {
		if s[i].Name == name {
			return i
		}
	}
	return -1
}

// having is a copy of s that has one of the name, and where the innermost is.
func having(s Set, of int, name string) (Set, int) {
	if i := innermost(s, name); i >= 0 {
		return slices.Clone(s), i
	}
	return Reset(s, of, nil, api.Pair{Name: name}), len(s)
}

// sum is b more than a, or a, if that leaves 32 binary digits, or those of an int.
func sum(a, b int) int {
	n := a + b
	wrapped := (n > a) != (b > 0)
	if wrapped || n != int(int32(n)) {
		return a
	}
	return n
}
