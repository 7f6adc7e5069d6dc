package proof

import (
	"slices"

	"sealring/api"
	"sealring/exponent"
	"sealring/knowledge"
	"sealring/term"
	"sealring/theory"
	"sealring/xor"
)

// Check reports whether a derivation is right.
func Check(k []api.Term, l []api.Deduction, t api.Term) bool {
	if len(k) > api.MaxTerms || len(l) == 0 || len(l) > maxSteps {
		return false
	}
	for i := range k {
		if !isGroundPlain(k[i]) {
			return false
		}
	}
	for i := range l {
		// The rules look at terms that have been found right alone.
		if shapeError(&l[i], i) != api.OK || !isGroundPlain(l[i].Term) || !isRight(k, l, i) {
			return false
		}
	}
	return equal(conclusion(l), t)
}

// Local reports whether a derivation is right and local for its conclusion.
func Local(k []api.Term, l []api.Deduction) bool {
	if len(l) == 0 || !Check(k, l, conclusion(l)) {
		return false
	}
	universe, e := knowledge.Universe(k, conclusion(l))
	if e != api.OK {
		return false
	}
	return !slices.ContainsFunc(l, func(d api.Deduction) bool {
		_, found := slices.BinarySearchFunc(universe, d.Term, term.Compare)
		return !found
	})
}

// conclusion returns the Term of the last step.
func conclusion(l []api.Deduction) api.Term {
	return l[len(l)-1].Term
}

func isGroundPlain(t api.Term) bool {
	return theory.Plain(t) && len(term.Vars(t)) == 0
}

// isRight reports whether the rule of the step with index i leads to its Term.
func isRight(k []api.Term, l []api.Deduction, i int) bool {
	d := &l[i]
	args := make([]api.Term, len(d.Args))
	for j, a := range d.Args {
		args[j] = l[a].Term
	}
	switch d.Rule {
	case api.ByGiven:
		return d.N < len(k) && equal(d.Term, k[d.N])
	case api.ByPublic:
		return knowledge.Public(d.Term)
	case api.BySum:
		s, e := xor.Sum(args)
		return e == api.OK && equal(d.Term, s)
	case api.ByPower:
		return isPower(d.Term, args[0], args[1:], d.Coeffs)
	case api.ByProduct:
		return exponent.Check(productsOf(args), productOf(d.Term), d.Coeffs)
	}
	return isFree(d.Rule, args, d.Term)
}

// isFree reports whether a rule of free terms leads from some terms to u.
func isFree(rule int, args []api.Term, u api.Term) bool {
	switch rule {
	case api.ByFirst:
		return isKid(u, &args[0], pair, 0)
	case api.BySecond:
		return isKid(u, &args[0], pair, 1)
	case api.ByDec:
		return equal(args[0], application(enc, u, args[1]))
	case api.ByAdec:
		return equal(args[0], application(aenc, u, application(pk, args[1])))
	case api.ByRead:
		return isKid(u, &args[0], sign, 0)
	}
	return equal(u, application(shapes[rule].word, args...))
}

// isKid reports whether t applies a symbol, and u is its kid number n.
func isKid(u api.Term, t *api.Term, name string, n int) bool {
	return applies(t, name) && equal(u, t.Kids[n])
}

// isPower reports whether a product of powers of some terms leads from the
// exponent of a to that of u.
func isPower(u, a api.Term, terms []api.Term, coeffs []int) bool {
	return equal(baseOf(&u), baseOf(&a)) && exponent.Check(productsOf(terms), quotient(&u, &a), coeffs)
}

// baseOf returns the base of a plain term.
func baseOf(t *api.Term) api.Term {
	if applies(t, exp) {
		return t.Kids[0]
	}
	return *t
}

// exponentOf returns the exponent of a plain term.
func exponentOf(t *api.Term) []api.Power {
	if applies(t, exp) {
		return productOf(t.Kids[1])
	}
	return nil
}

// quotient returns the quotient of the exponents of two plain terms, which have
// so few factors that it has no error.
func quotient(u, a *api.Term) []api.Power {
	q, _ := exponent.Mul(exponentOf(u), exponent.Inverse(exponentOf(a)))
	return q
}

// productOf returns the product of a term, which has one, as it is plain.
func productOf(t api.Term) []api.Power {
	l, _ := exponent.Of(t)
	return l
}

func productsOf(l []api.Term) [][]api.Power {
	products := make([][]api.Power, len(l))
	for i := range l {
		products[i] = productOf(l[i])
	}
	return products
}
