package cascade

import (
	"slices"

	"fleuron/api"
	"fleuron/prop"
	"fleuron/selector"
)

// side is whose rules they are: the Origins of their declarations.
type side struct {
	usual, important int
}

// origin is a declaration's.
func (s side) origin(d api.Decl) int {
	if d.Important {
		return s.important
	}
	return s.usual
}

// reader reads rules into a sheet.
type reader struct {
	sheet *Sheet
	at    int // of the next declaration
}

// rules reads those with selectors.
func (r *reader) rules(l []api.Rule, s side) {
	for _, rule := range l {
		if rule.At != "" || !rule.Block {
			continue
		}
		chosen, e := selector.Parse(rule.Prelude)
		if e != api.OK {
			continue
		}
		keys := r.decls(rule.Decls, s)
		if len(rule.Decls) > 0 {
			r.choose(chosen, keys)
		}
	}
}

// slot is what only one declaration of a rule may win: all of them have the same selectors.
type slot struct {
	name   string
	origin int
}

// decls counts a rule's declarations. It keeps the value of the last one of each slot that is taken, and tells their bare keys.
func (r *reader) decls(l []api.Decl, s side) []Key {
	var keys []Key
	later := map[slot]struct{}{}
	for i, d := range slices.Backward(l) {
		k := Key{Origin: s.origin(d), At: r.at + i}
		of := slot{d.Name, k.Origin}
		if _, ok := later[of]; ok {
			continue
		}
		v, e := prop.Parse(d)
		if e != api.OK {
			continue
		}
		later[of] = struct{}{}
		keys = append(keys, k)
		r.sheet.values[k] = v
	}
	r.at += len(l)
	return keys
}

// choose keeps a rule's selectors.
func (r *reader) choose(l []selector.Complex, keys []Key) {
	for _, c := range l {
		to := targetOf(c)
		r.sheet.choices[to] = append(r.sheet.choices[to], choice{c, selector.Weigh(c), keys})
	}
}
