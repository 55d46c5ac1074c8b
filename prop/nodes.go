package prop

import (
	"fleuron/api"
	"fleuron/points"
)

// none is the word by which there is nothing.
const none = "none"

// withoutWhite is l without the White that parts its nodes.
func withoutWhite(l []api.Node) []api.Node {
	var all []api.Node
	for _, n := range l {
		if n.Token.Kind != api.White {
			all = append(all, n)
		}
	}
	return all
}

// small is a node's text in small letters.
func small(n api.Node) string { return points.Lower(n.Token.Text) }

// single is the Ident that l is, in small letters.
func single(l []api.Node) (string, bool) {
	if len(l) != 1 || l[0].Token.Kind != api.Ident {
		return "", false
	}
	return small(l[0]), true
}

// alone is the same; empty of another l.
func alone(l []api.Node) string {
	word, _ := single(l)
	return word
}

// numbered is a word and the number that stands for it.
type numbered struct {
	word   string
	number int
}

// wides is the words that every property has.
var wides = [...]numbered{{"inherit", Inherit}, {"initial", Initial}, {"unset", Unset}}

// wideWord is how a word in small letters says it: Said of any that is none of them.
func wideWord(word string) int {
	for _, w := range wides {
		if w.word == word {
			return w.number
		}
	}
	return Said
}

// wide is how it is said by l.
func wide(l []api.Node) int { return wideWord(alone(l)) }
