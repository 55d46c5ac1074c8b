package selector

import (
	"fleuron/api"
)

// words is the pseudo-classes, by kind: up to Root they are idents, from Nth on functions.
var words = [...]string{
	First:   "first-child",
	Last:    "last-child",
	Only:    "only-child",
	Empty:   "empty",
	Root:    "root",
	Nth:     "nth-child",
	NthLast: "nth-last-child",
	Not:     "not",
	Is:      "is",
	Where:   "where",
}

// elements is the pseudo-elements.
var elements = [...]string{
	api.Before:      "before",
	api.After:       "after",
	api.Marker:      "marker",
	api.FirstLetter: "first-letter",
	api.FirstLine:   "first-line",
}

// kindOf is the kind of a pseudo-class; 0 of another word.
func kindOf(word string) int {
	for kind := First; kind <= Where; kind++ {
		if words[kind] == word {
			return kind
		}
	}
	return 0
}

// elementOf is the pseudo-element that a word tells; Self of another word.
func elementOf(word string) int {
	for which := api.Before; which <= api.FirstLine; which++ {
		if elements[which] == word {
			return which
		}
	}
	return api.Self
}

// isElement tells whether a number is a pseudo-element's.
func isElement(which int) bool { return api.Before <= which && which <= api.FirstLine }
