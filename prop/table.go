package prop

import (
	"fleuron/api"
)

// property is what may be said by one name.
type property struct {
	name     string
	inherits bool
	read     func(l []api.Node) (api.Style, bool) // of nodes without White: what they say and nothing else, if they may be
	take     func(s *api.Style, from api.Style)   // the lists stay those of from
}

// properties is all of them, by bytes.
func properties() [8]property {
	return [8]property{
		{"color", true, readColor, takeColor},
		{"content", false, readContent, takeContent},
		{"counter-increment", false, readAdd, takeAdd},
		{"counter-reset", false, readReset, takeReset},
		{"counter-set", false, readSet, takeSet},
		{"display", false, readDisplay, takeDisplay},
		{"list-style-type", true, readListType, takeListType},
		{"quotes", true, readQuotes, takeQuotes},
	}
}

// find is the property of a name.
func find(name string) (property, bool) {
	for _, p := range properties() {
		if p.name == name {
			return p, true
		}
	}
	return property{}, false
}

func takeColor(s *api.Style, from api.Style)    { s.Color = from.Color }
func takeAdd(s *api.Style, from api.Style)      { s.Add = from.Add }
func takeReset(s *api.Style, from api.Style)    { s.Reset = from.Reset }
func takeSet(s *api.Style, from api.Style)      { s.Set = from.Set }
func takeDisplay(s *api.Style, from api.Style)  { s.Display = from.Display }
func takeListType(s *api.Style, from api.Style) { s.ListType = from.ListType }
func takeQuotes(s *api.Style, from api.Style)   { s.Quotes, s.Auto = from.Quotes, from.Auto }

func takeContent(s *api.Style, from api.Style) {
	s.Content, s.Normal, s.None = from.Content, from.Normal, from.None
}
