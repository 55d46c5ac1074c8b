package selector

import (
	"slices"

	"fleuron/api"
)

// What a weight counts, by place.
const (
	ids     = 0
	classes = 1
	types   = 2
)

// scale weighs a list, of which the greatest counts.
type scale struct {
	list  []Complex   // those that are not on it yet
	inner [][]Complex // lists of the one that is on it, not added yet
	sum   api.Weight  // of the one that is on it, so far
	most  api.Weight  // of those that were on it
}

// next puts the next one on.
func (s *scale) next() {
	s.most = s.greatest()
	s.sum, s.inner = bare(s.list[0])
	s.list = s.list[1:]
}

// greatest is that of those that are weighed.
func (s *scale) greatest() api.Weight {
	if slices.Compare(s.sum[:], s.most[:]) > 0 {
		return s.sum
	}
	return s.most
}

// add adds what a list of the one that is on it weighs.
func (s *scale) add(w api.Weight) {
	for i, n := range w {
		s.sum[i] += n
	}
}

// bare is what c weighs without its lists, and those of them that weigh.
func bare(c Complex) (w api.Weight, lists [][]Complex) {
	if isElement(c.Pseudo) {
		w[types]++
	}
	for _, p := range c.Parts {
		if p.Tag != "" && p.Tag != "*" {
			w[types]++
		}
		for _, s := range p.Simple {
			switch s.Kind {
			case ID:
				w[ids]++
			case Class, Attr, First, Last, Only, Empty, Root:
				w[classes]++
			case Nth, NthLast:
				w[classes]++
				lists = append(lists, s.List)
			case Not, Is:
				lists = append(lists, s.List)
			}
		}
	}
	return w, lists
}
