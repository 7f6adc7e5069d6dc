package refute

import (
	"slices"

	"sealring/api"
	"sealring/exponent"
	"sealring/knowledge"
	"sealring/term"
	"sealring/xor"
)

// Check reports whether a refusal is right.
func Check(k []api.Term, t api.Term, r api.Refusal) bool {
	universe, e := knowledge.Universe(k, t)
	if e != api.OK || !areSome(universe, r.Known) {
		return false
	}
	known := newSet(r.Known)
	if known.lacks(k) || known.has(&t) {
		return false
	}
	missing := known.missing(universe)
	for i := range missing {
		u := &missing[i]
		if knowledge.Public(*u) || known.composes(u) || known.opens(u) {
			return false
		}
	}
	return known.hasNoSums(missing, r.Sums) && known.hasNoPowers(missing, r.Powers)
}

// areSome reports whether l has terms of a universe, and ascends strictly.
func areSome(universe, l []api.Term) bool {
	for i := range l {
		if _, found := placeOf(universe, &l[i]); !found {
			return false
		}
		if i > 0 && term.Compare(l[i-1], l[i]) >= 0 {
			return false
		}
	}
	return true
}

// hasNoSums reports whether the missing terms are shown not to be sums of those
// of the set.
func (s *set) hasNoSums(missing []api.Term, l []api.NoSum) bool {
	return slices.EqualFunc(missing, l, func(u api.Term, n api.NoSum) bool {
		return equal(n.Term, u) && xor.CheckRefute(s.terms, u, n.Odd)
	})
}

// hasNoPowers reports whether the quotients of all missing terms are shown not
// to be generated.
func (s *set) hasNoPowers(missing []api.Term, l []api.NoPower) bool {
	for i := range missing {
		for _, q := range s.quotients(&missing[i]) {
			if len(l) == 0 || !s.isNoPower(&missing[i], q, &l[0]) {
				return false
			}
			l = l[1:]
		}
	}
	return len(l) == 0
}

// isNoPower reports whether a quotient of u is shown not to be generated.
func (s *set) isNoPower(u *api.Term, q quotient, n *api.NoPower) bool {
	return equal(n.Term, *u) && equal(n.Base, q.base) && exponent.CheckRefute(s.generators, q.product, n.Shows)
}
