package system

import "math"

// What a style may have at most.
const (
	mostSymbols = 64
	mostBytes   = 100
	mostPad     = 200
)

// near tells whether Signs has to do with n: 2^31 may be what was below 0.
func near(n int) bool { return int64(n) >= math.MinInt32 && int64(n) <= -math.MinInt32 }

// held tells whether n is within 32 binary digits.
func held(n int) bool { return int(int32(n)) == n }

// symbolsMay tells whether there are as many Symbols and Weights as the system asks for.
func symbolsMay(d Def) bool {
	k := len(d.Symbols)
	if k > mostSymbols {
		return false
	}
	switch d.System {
	case cyclic, symbolic, fixed:
		return k >= 1
	case alphabetic, numeric:
		return k >= 2
	case additive:
		return k >= 1 && len(d.Weights) == k && falling(d.Weights)
	case extends:
		return k == 0 && len(d.Weights) == 0
	}
	return false
}

// falling tells whether each of l is below the one ahead, and none is below 0.
func falling(l []int) bool {
	for i, w := range l {
		if w < 0 || i > 0 && w >= l[i-1] {
			return false
		}
	}
	return true
}

// textsMay tells whether none of the texts is too long.
func textsMay(d Def) bool {
	return short(d.Symbols...) && short(d.Prefix, d.Suffix, d.Negative[0], d.Negative[1], d.PadSign)
}

// short tells whether all of l are.
func short(l ...string) bool {
	for _, s := range l {
		if len(s) > mostBytes {
			return false
		}
	}
	return true
}

// rangeMay tells whether all bounds are in order.
func rangeMay(l [][2]int) bool {
	for _, r := range l {
		if r[0] > r[1] || !held(r[0]) || !held(r[1]) {
			return false
		}
	}
	return true
}
