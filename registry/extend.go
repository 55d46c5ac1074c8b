package registry

import (
	"slices"

	"fleuron/system"
)

// extends is the system of a style that is not extended yet.
const extends = "extends"

// What Said has of a descriptor.
const (
	saysNegative = 1 << iota
	saysPrefix
	saysSuffix
	saysRange
	saysPad
	saysFallback
)

// extend makes whole the style of a name, and all that it extends. No way is gone twice, since what is whole extends none.
func (r *Registry) extend(name string) {
	var way []system.Def
	places := map[string]int{} // of the way, by names
	d := r.orDecimal(name)
	for d.System == extends {
		if at, ok := places[d.Name]; ok {
			r.makeWhole(way[at:])
			way = way[:at]
			break
		}
		places[d.Name] = len(way)
		way = append(way, d)
		d = r.orDecimal(d.Extends)
	}
	for _, d := range slices.Backward(way) {
		r.styles[d.Name] = whole(d, r.orDecimal(d.Extends))
	}
}

// makeWhole is for those that come back to themselves: each extends decimal instead.
func (r *Registry) makeWhole(ring []system.Def) {
	for _, d := range ring {
		r.styles[d.Name] = whole(d, decimalStyle())
	}
}

// whole is d with all that it does not say of the one that it extends.
func whole(d, of system.Def) system.Def {
	d.System, d.First, d.Symbols, d.Weights = of.System, of.First, of.Symbols, of.Weights
	if d.Said&saysNegative == 0 {
		d.Negative = of.Negative
	}
	if d.Said&saysPrefix == 0 {
		d.Prefix = of.Prefix
	}
	if d.Said&saysSuffix == 0 {
		d.Suffix = of.Suffix
	}
	if d.Said&saysRange == 0 {
		d.Auto, d.Range = of.Auto, of.Range
	}
	if d.Said&saysPad == 0 {
		d.Pad, d.PadSign = of.Pad, of.PadSign
	}
	if d.Said&saysFallback == 0 {
		d.Fallback = of.Fallback
	}
	return d
}
