package refute

import (
	"slices"

	"sealring/api"
	"sealring/term"
	"sealring/theory"
)

// The limits of a universe: those of layer 10.
const (
	maxExponents = 4
	maxFactors   = 8
)

// Step reports whether one step leads from s to t.
func Step(s []api.Term, t api.Term) (bool, api.Errno) {
	if e := listError(s); e != api.OK {
		return false, e
	}
	if e := termError(t); e != api.OK {
		return false, e
	}
	if areTooMany(exponentsIn(append(slices.Clone(s), t))) {
		return false, api.ErrTooLarge
	}
	return newSet(s).leadsTo(&t), api.OK
}

// Closed returns the first term of the universe that one step adds to s and
// false, or a zero term and true if there is none. It looks at s only once.
func Closed(s, universe []api.Term) (api.Term, bool) {
	if len(universe) == 0 {
		// Step has no error, whatever s is: there is no term for it.
		return api.Term{}, true
	}
	if listError(s) != api.OK {
		return api.Term{}, false
	}
	exponents := exponentsIn(s)
	for i := range universe {
		if termError(universe[i]) != api.OK || areTooMany(inOrder(slices.Concat(exponents, exponentsIn(universe[i:i+1])))) {
			return api.Term{}, false
		}
	}
	known := newSet(s)
	universe = inOrder(universe)
	for i := range universe {
		if known.finds(&universe[i]) {
			return copyOf(&universe[i]), false
		}
	}
	return api.Term{}, true
}

// listError returns the first error of a list of terms by themselves.
func listError(l []api.Term) api.Errno {
	if len(l) > api.MaxTerms {
		return api.ErrTooLarge
	}
	for i := range l {
		if e := termError(l[i]); e != api.OK {
			return e
		}
	}
	return api.OK
}

// termError returns the error of a term by itself.
func termError(t api.Term) api.Errno {
	if e := theory.Valid(t); e != api.OK {
		return e
	}
	switch {
	case len(term.Vars(t)) > 0:
		return api.ErrUnbound
	case !theory.Plain(t):
		return api.ErrType
	}
	return api.OK
}

// exponentsIn returns, in order and each once, the exponents among the subterms
// of plain terms, and the second kids of applications of exp, whose factors
// count as well.
func exponentsIn(l []api.Term) []api.Term {
	var all []api.Term
	for i := range l {
		all = appendExponents(all, &l[i])
	}
	return inOrder(all)
}

func appendExponents(l []api.Term, t *api.Term) []api.Term {
	switch {
	case applies(t, mul) || applies(t, inv):
		l = append(l, *t)
	case applies(t, exp):
		l = append(l, t.Kids[1])
	}
	for i := range t.Kids {
		l = appendExponents(l, &t.Kids[i])
	}
	return l
}

// areTooMany reports whether different terms that exponentsIn has found have
// more exponents or factors than a universe may have.
func areTooMany(l []api.Term) bool {
	exponents := 0
	var factors []api.Term
	for i := range l {
		if applies(&l[i], mul) || applies(&l[i], inv) {
			exponents++
		}
		for _, p := range productOf(&l[i]) {
			factors = append(factors, p.Term)
		}
	}
	return exponents > maxExponents || len(inOrder(factors)) > maxFactors
}
