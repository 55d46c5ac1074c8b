package registry

import (
	"math"
	"strings"
	"unicode/utf8"

	"fleuron/system"
)

// held is n held to 32 digits.
func held(n int) int { return min(max(n, math.MinInt32), math.MaxInt32) }

// try goes from the style of a name to the one that has n: the names on the way, and that style. It ends, since no style is tried twice and decimal has every number.
func (r *Registry) try(name string, n int) ([]string, system.Def) {
	d := r.orDecimal(name)
	names := []string{d.Name}
	tried := map[string]struct{}{d.Name: {}}
	for !has(d, n) {
		d = r.orDecimal(d.Fallback)
		if _, ok := tried[d.Name]; ok {
			d = decimalStyle()
		}
		names = append(names, d.Name)
		tried[d.Name] = struct{}{}
	}
	return names, d
}

// has tells whether n is within a style's range, and has signs there.
func has(d system.Def, n int) bool {
	_, ok := signs(d, n)
	return ok && system.In(d, n)
}

// signs is those of n, but for the mark that it is below 0.
func signs(d system.Def, n int) (string, bool) {
	if system.Uses(d, n) {
		n = -n
	}
	return system.Signs(d, n)
}

// number is the text of n in a style that has it.
func number(d system.Def, n int) string {
	var ahead, behind string
	if system.Uses(d, n) {
		ahead, behind = d.Negative[0], d.Negative[1]
	}
	text, _ := signs(d, n)
	missing := d.Pad - count(ahead) - count(text) - count(behind)
	return ahead + strings.Repeat(d.PadSign, max(missing, 0)) + text + behind
}

// count is how many signs a text has.
func count(s string) int { return utf8.RuneCountInString(s) }
