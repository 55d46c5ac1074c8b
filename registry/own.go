package registry

import (
	"strings"

	"fleuron/system"
)

// decimal is the style that all others fall back to in the end.
const decimal = "decimal"

// What stands behind a number, and behind a sign that is none.
const (
	point = ". "
	blank = " "
)

const (
	digits     = "0 1 2 3 4 5 6 7 8 9"
	smallLatin = "a b c d e f g h i j k l m n o p q r s t u v w x y z"
	greatLatin = "A B C D E F G H I J K L M N O P Q R S T U V W X Y Z"
	greek      = "α β γ δ ε ζ η θ ι κ λ μ ν ξ ο π ρ σ τ υ φ χ ψ ω"

	smallRoman = "m cm d cd c xc l xl x ix v iv i"
	greatRoman = "M CM D CD C XC L XL X IX V IV I"
)

// ownName is an own style as the table has it.
type ownName struct {
	name    string
	system  string
	symbols string // parted by blanks
	suffix  string
}

// own is all of them, by bytes.
var own = [...]ownName{
	{"circle", "cyclic", "\u25e6", blank},
	{decimal, "numeric", digits, point},
	{"decimal-leading-zero", "numeric", digits, point},
	{"disc", "cyclic", "\u2022", blank},
	{"lower-alpha", "alphabetic", smallLatin, point},
	{"lower-greek", "alphabetic", greek, point},
	{"lower-roman", "additive", smallRoman, point},
	{"square", "cyclic", "\u25aa", blank},
	{"upper-alpha", "alphabetic", greatLatin, point},
	{"upper-roman", "additive", greatRoman, point},
}

// isOwn tells whether a name in small letters is an own style's.
func isOwn(name string) bool {
	for _, o := range own {
		if o.name == name {
			return true
		}
	}
	return false
}

// ownStyle is the own style of a name.
func ownStyle(name string) (system.Def, bool) {
	for _, o := range own {
		if o.name == name {
			return o.style(), true
		}
	}
	return system.Def{}, false
}

// decimalStyle is the one that is always there.
func decimalStyle() system.Def {
	d, _ := ownStyle(decimal)
	return d
}

// style is all of one.
func (o ownName) style() system.Def {
	d := system.Def{
		Name:     o.name,
		System:   o.system,
		Symbols:  strings.Fields(o.symbols),
		Negative: [2]string{"-", ""},
		Suffix:   o.suffix,
		Auto:     true,
		Fallback: decimal,
	}
	switch o.name {
	case "decimal-leading-zero":
		d.Pad, d.PadSign = 2, "0"
	case "lower-roman", "upper-roman":
		d.Weights = []int{1000, 900, 500, 400, 100, 90, 50, 40, 10, 9, 5, 4, 1}
		d.Auto, d.Range = false, [][2]int{{1, 3999}}
	}
	return d
}
