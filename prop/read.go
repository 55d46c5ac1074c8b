package prop

import (
	"fleuron/api"
	"fleuron/define"
)

// mark stands ahead of a ListType that is a text, where no style's name is meant.
const mark = `"`

// inline is the display that is not said.
const inline = "inline"

func readDisplay(l []api.Node) (api.Style, bool) {
	switch said := alone(l); said {
	case none, "block", inline, "list-item":
		return api.Style{Display: said}, true
	}
	return api.Style{}, false
}

func readColor(l []api.Node) (api.Style, bool) {
	name, ok := single(l)
	return api.Style{Color: name}, ok
}

func readListType(l []api.Node) (api.Style, bool) {
	if len(l) == 1 && l[0].Token.Kind == api.String {
		return api.Style{ListType: mark + l[0].Token.Text}, true
	}
	name, ok := styleOrNone(l)
	return api.Style{ListType: name}, ok
}

// styleOrNone is a style's name, or the word none.
func styleOrNone(l []api.Node) (string, bool) {
	if alone(l) == none {
		return none, true
	}
	return define.Name(l)
}

func readQuotes(l []api.Node) (api.Style, bool) {
	switch alone(l) {
	case none:
		return api.Style{}, true
	case "auto":
		return api.Style{Auto: true}, true
	}
	if len(l) == 0 || len(l)%2 != 0 || len(l) > api.MaxList {
		return api.Style{}, false
	}
	var all []string
	for _, n := range l {
		if n.Token.Kind != api.String {
			return api.Style{}, false
		}
		all = append(all, n.Token.Text)
	}
	return api.Style{Quotes: all}, true
}
