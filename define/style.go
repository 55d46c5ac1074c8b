package define

import (
	"math"

	"fleuron/api"
	"fleuron/nest"
	"fleuron/system"
)

// style is one as far as it is said. Which symbols count is not known before the end, since any descriptor may be the last.
type style struct {
	def     system.Def
	symbols []string
	added   []string // the symbols of additive-symbols
	weights []int
}

// unsaid is one of which nothing is said but its name.
func unsaid(name string) style {
	return style{def: system.Def{
		Name:     name,
		System:   symbolic,
		First:    1,
		Negative: [2]string{"-", ""},
		Suffix:   ". ",
		Auto:     true,
		Fallback: "decimal",
	}}
}

// take notes what a descriptor says; false of what may not be, which changes nothing.
func (s *style) take(descriptor string, l []api.Node) bool {
	switch descriptor {
	case "system":
		return s.takeSystem(l)
	case "negative":
		return s.takeNegative(l)
	case "prefix":
		return takeSymbol(&s.def.Prefix, l)
	case "suffix":
		return takeSymbol(&s.def.Suffix, l)
	case "range":
		return s.takeRange(l)
	case "pad":
		return s.takePad(l)
	case "fallback":
		return s.takeFallback(l)
	case "symbols":
		return s.takeSymbols(l)
	case "additive-symbols":
		return s.takeAdded(l)
	}
	return false
}

func (s *style) takeSystem(l []api.Node) bool {
	if len(l) == 0 {
		return false
	}
	first, said := word(l[0]), l[1:]
	switch {
	case isAlone(first) && len(said) == 0:
		s.setSystem(first, 1, "")
		return true
	case first == fixed && len(said) == 1:
		n, ok := number(said[0])
		if ok {
			s.setSystem(fixed, n, "")
		}
		return ok
	case first == extends:
		of, ok := Name(said)
		if ok {
			s.setSystem(extends, 1, of)
		}
		return ok
	}
	return false
}

// setSystem leaves nothing of an earlier one.
func (s *style) setSystem(kind string, first int, of string) {
	s.def.System, s.def.First, s.def.Extends = kind, first, of
}

func (s *style) takeNegative(l []api.Node) bool {
	all, ok := symbols(l)
	if !ok || len(all) > 2 {
		return false
	}
	s.def.Negative = [2]string{}
	copy(s.def.Negative[:], all)
	return true
}

func takeSymbol(into *string, l []api.Node) bool {
	if len(l) != 1 {
		return false
	}
	text, ok := Symbol(l[0])
	if ok {
		*into = text
	}
	return ok
}

func (s *style) takeRange(l []api.Node) bool {
	if len(l) == 1 && word(l[0]) == "auto" {
		s.def.Auto, s.def.Range = true, nil
		return true
	}
	var all [][2]int
	for _, part := range nest.Split(l) {
		if len(part) != 2 {
			return false
		}
		low, lowOK := bound(part[0], math.MinInt32)
		high, highOK := bound(part[1], math.MaxInt32)
		if !lowOK || !highOK || low > high {
			return false
		}
		all = append(all, [2]int{low, high})
	}
	s.def.Auto, s.def.Range = false, all
	return true
}

func (s *style) takePad(l []api.Node) bool {
	n, text, ok := numbered(l)
	if ok {
		s.def.Pad, s.def.PadSign = n, text
	}
	return ok
}

func (s *style) takeFallback(l []api.Node) bool {
	name, ok := Name(l)
	if ok {
		s.def.Fallback = name
	}
	return ok
}

func (s *style) takeSymbols(l []api.Node) bool {
	all, ok := symbols(l)
	if ok {
		s.symbols = all
	}
	return ok
}

func (s *style) takeAdded(l []api.Node) bool {
	var weights []int
	var added []string
	for i, part := range nest.Split(l) {
		n, text, ok := numbered(part)
		if !ok || i > 0 && n >= weights[i-1] {
			return false
		}
		weights = append(weights, n)
		added = append(added, text)
	}
	s.weights, s.added = weights, added
	return true
}

// whole is all that is said, if it may be.
func (s *style) whole() (system.Def, bool) {
	d := s.def
	switch d.System {
	case extends:
		if len(s.symbols) > 0 || len(s.added) > 0 {
			return system.Def{}, false
		}
	case additive:
		d.Symbols, d.Weights = s.added, s.weights
	default:
		d.Symbols = s.symbols
	}
	return d, system.May(d)
}
