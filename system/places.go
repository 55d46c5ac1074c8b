package system

import (
	"slices"

	"fleuron/api"
)

// places is where the symbols of n are, of a d that may be and an n that is near.
func places(d Def, n int) ([]int, bool) {
	k := len(d.Symbols)
	switch d.System {
	case cyclic:
		return []int{around(n, k)}, true
	case fixed:
		return since(d.First, n, k)
	}
	if n < 0 {
		return nil, false
	}
	// From here on no number is below 0, and 2^31 has its place, too.
	m := uint32(n)
	switch d.System {
	case symbolic:
		return again(m, uint32(k))
	case alphabetic:
		return withoutZero(m, uint32(k))
	case numeric:
		return digits(m, uint32(k)), true
	case additive:
		return sum(m, d.Weights)
	}
	return nil, false
}

// around is n - 1 modulo k. It is never below 0, as % would be.
func around(n, k int) int {
	at := (int64(n) - 1) % int64(k)
	if at < 0 {
		at += int64(k)
	}
	return int(at)
}

// since is n - first, if it is below k. The difference of true numbers may be more than an int holds, and an n below first wraps round to one far above k.
func since(first, n, k int) ([]int, bool) {
	at := uint64(n) - uint64(first)
	if at >= uint64(k) {
		return nil, false
	}
	return []int{int(at)}, true
}

// again is one place for each time that n has gone through all k.
func again(n, k uint32) ([]int, bool) {
	if n == 0 {
		return nil, false
	}
	return more(nil, int((n-1)%k), (n-1)/k+1)
}

// more is l and one place behind it, often times; false, if that is too much.
func more(l []int, at int, often uint32) ([]int, bool) {
	if often > uint32(api.MaxSigns-len(l)) {
		return nil, false
	}
	for range often {
		l = append(l, at)
	}
	return l, true
}

// withoutZero is the digits of n to the base k, from 1 to k.
func withoutZero(n, k uint32) ([]int, bool) {
	if n == 0 {
		return nil, false
	}
	var l []int
	for ; n > 0; n = (n - 1) / k {
		l = append(l, int((n-1)%k))
	}
	slices.Reverse(l)
	return l, true
}

// digits is those of n to the base k. There are no more than 32, so that no limit is asked for.
func digits(n, k uint32) []int {
	l := []int{int(n % k)}
	for n /= k; n > 0; n /= k {
		l = append(l, int(n%k))
	}
	slices.Reverse(l)
	return l
}

// sum is each weight as often as it goes into what the ones ahead left of n.
func sum(n uint32, weights []int) ([]int, bool) {
	if n == 0 {
		last := len(weights) - 1 // they fall, so no other may be 0
		if weights[last] != 0 {
			return nil, false
		}
		return []int{last}, true
	}
	var l []int
	left := uint64(n)
	for i, w := range weights {
		if w == 0 {
			continue
		}
		var ok bool
		l, ok = more(l, i, uint32(left/uint64(w)))
		if !ok {
			return nil, false
		}
		left %= uint64(w)
	}
	return l, left == 0
}
