package rewrite

import (
	"slices"

	"sealring/api"
	"sealring/term"
)

// maxFuel is the greatest number of redexes that may be applied.
const maxFuel = 1000

// Normal applies the first redex again and again, and returns the normal form
// and the trace.
func Normal(rules []api.Rule, t api.Term, fuel int) (api.Term, []api.Redex, api.Errno) {
	if e := argumentsError(rules, t); e != api.OK {
		return api.Term{}, nil, e
	}
	if fuel < 0 || fuel > maxFuel {
		return api.Term{}, nil, api.ErrRange
	}
	n := normalizer{rules: rules, fuel: fuel, whole: copyOf(&t)}
	if e := n.normalize(&n.whole, &t, nil); e != api.OK {
		return api.Term{}, nil, e
	}
	return n.whole, n.trace, api.OK
}

// A normalizer changes a term step by step.
type normalizer struct {
	rules []api.Rule
	fuel  int
	whole api.Term
	trace []api.Redex
}

// normalize changes t, the part of the whole term at the position at, until it
// is in normal form. No part that comes before it is changed any more: it has
// no redex, and keeps its kids.
//
// The term t is an instance of shape by terms in normal form, so there is
// nothing to be done where shape has a variable. (A variable has no redex, so
// at first the term is its own shape.)
func (n *normalizer) normalize(t, shape *api.Term, at []int) api.Errno {
	for shape.Kind != api.TermVar {
		for i := range t.Kids {
			if e := n.normalize(&t.Kids[i], &shape.Kids[i], append(at, i)); e != api.OK {
				return e
			}
		}
		rule, s, found := firstRule(n.rules, t)
		if !found {
			return api.OK
		}
		if len(n.trace) == n.fuel {
			return api.ErrFuel
		}
		shape = &n.rules[rule].Right
		*t = instance(s, shape)
		if e := term.Valid(n.whole); e != api.OK {
			return e
		}
		n.trace = append(n.trace, api.Redex{Rule: rule, Position: slices.Clone(at)})
	}
	return api.OK
}
