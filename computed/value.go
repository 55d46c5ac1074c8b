package computed

import (
	"slices"

	"fleuron/api"
	"fleuron/prop"
)

// source is the style that a value's property is taken from, if the value says one.
func source(v prop.Value, parent api.Style) (api.Style, bool) {
	switch v.Wide {
	case prop.Said:
		return v.Style, true
	case prop.Inherit:
		return parent, true
	case prop.Initial:
		return prop.Start(), true
	case prop.Unset:
		if prop.Inherits(v.Name) {
			return parent, true
		}
		return prop.Start(), true
	}
	return api.Style{}, false
}

// copied is s with lists of its own.
func copied(s api.Style) api.Style {
	s.Content = slices.Clone(s.Content)
	s.Quotes = slices.Clone(s.Quotes)
	s.Reset = slices.Clone(s.Reset)
	s.Add = slices.Clone(s.Add)
	s.Set = slices.Clone(s.Set)
	return s
}
