package prop

import (
	"fleuron/api"
)

// marks is the words of quotes, and their kinds.
var marks = [...]numbered{
	{"open-quote", api.OpenQuote},
	{"close-quote", api.CloseQuote},
	{"no-open-quote", api.NoOpen},
	{"no-close-quote", api.NoClose},
}

func readContent(l []api.Node) (api.Style, bool) {
	switch alone(l) {
	case "normal":
		return api.Style{Normal: true}, true
	case none:
		return api.Style{None: true}, true
	}
	if len(l) == 0 || len(l) > api.MaxList {
		return api.Style{}, false
	}
	var all []api.Item
	for _, n := range l {
		x, ok := item(n)
		if !ok {
			return api.Style{}, false
		}
		all = append(all, x)
	}
	return api.Style{Content: all}, true
}

// item is one of a content.
func item(n api.Node) (api.Item, bool) {
	switch n.Token.Kind {
	case api.String:
		return api.Item{Kind: api.Words, Text: n.Token.Text}, true
	case api.Ident:
		return quote(small(n))
	case api.Function:
		return made(small(n), withoutWhite(n.Kids))
	}
	return api.Item{}, false
}

// quote is the item of a word in small letters.
func quote(word string) (api.Item, bool) {
	for _, m := range marks {
		if m.word == word {
			return api.Item{Kind: m.number}, true
		}
	}
	return api.Item{}, false
}

// made is the item of a function with what is in it.
func made(name string, l []api.Node) (api.Item, bool) {
	switch name {
	case "attr":
		return attribute(l)
	case "counter":
		return innermost(l)
	case "counters":
		return every(l)
	}
	return api.Item{}, false
}

func attribute(l []api.Node) (api.Item, bool) {
	name, ok := single(l)
	return api.Item{Kind: api.AttrOf, Text: name}, ok
}

// innermost is a counter's name, and a style or not.
func innermost(l []api.Node) (api.Item, bool) {
	if len(l) == 0 {
		return api.Item{}, false
	}
	name, named := counterName(l[0])
	style, styled := styleBehind(l[1:])
	return api.Item{Kind: api.CounterOf, Text: name, Style: style}, named && styled
}

// every is a counter's name, what stands between its numbers, and a style or not.
func every(l []api.Node) (api.Item, bool) {
	if len(l) < 3 || l[1].Token.Kind != api.Comma || l[2].Token.Kind != api.String {
		return api.Item{}, false
	}
	name, named := counterName(l[0])
	style, styled := styleBehind(l[3:])
	return api.Item{Kind: api.CountersOf, Text: name, Sep: l[2].Token.Text, Style: style}, named && styled
}

// styleBehind is the style that a Comma stands ahead of, or the one that holds without both.
func styleBehind(l []api.Node) (string, bool) {
	switch {
	case len(l) == 0:
		return "decimal", true
	case l[0].Token.Kind != api.Comma:
		return "", false
	}
	return styleOrNone(l[1:])
}
