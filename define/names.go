package define

// Kinds of names.
const (
	free   = 0 // anybody's
	barred = 1 // no style's
	kept   = 2 // an own style's, that no other may have
	own    = 3 // an own style's
)

// name is one that is not free.
type name struct {
	text string
	kind int
}

// names is all that are not free.
var names = [...]name{
	{"none", barred},
	{"initial", barred},
	{"inherit", barred},
	{"unset", barred},
	{"default", barred},
	{"decimal", kept},
	{"disc", kept},
	{"square", kept},
	{"circle", kept},
	{"decimal-leading-zero", own},
	{"lower-alpha", own},
	{"upper-alpha", own},
	{"lower-roman", own},
	{"upper-roman", own},
	{"lower-greek", own},
}

// kindOf is the kind of a name in small letters.
func kindOf(small string) int {
	for _, n := range names {
		if n.text == small {
			return n.kind
		}
	}
	return free
}

// The systems that others are told by.
const (
	symbolic = "symbolic"
	additive = "additive"
	fixed    = "fixed"
	extends  = "extends"
)

// alone is the systems that one word says.
var alone = [...]string{"cyclic", "numeric", "alphabetic", symbolic, additive, fixed}

// isAlone tells whether a word in small letters is one of them.
func isAlone(word string) bool {
	for _, s := range alone {
		if s == word {
			return true
		}
	}
	return false
}

// told is the descriptors that Said tells of, by their bits.
var told = [...]string{"negative", "prefix", "suffix", "range", "pad", "fallback"}

// bitOf is what Said has of a descriptor; 0 of another one.
func bitOf(descriptor string) int {
	for i, s := range told {
		if s == descriptor {
			return 1 << i
		}
	}
	return 0
}
