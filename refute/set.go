package refute

import (
	"slices"

	"sealring/api"
	"sealring/exponent"
	"sealring/knowledge"
)

// A set knows to which terms one step leads from its own, which are plain and
// have no more exponents and factors than a universe. What many questions need
// is found when it is made.
type set struct {
	terms      []api.Term // in order, each once
	opened     []api.Term // the terms to which rule 2 leads, in order
	span       span
	generators [][]api.Power // reduced
	powers     []api.Term    // the applications of exp, in order
}

func newSet(l []api.Term) *set {
	s := &set{terms: inOrder(l)}
	for i := range s.terms {
		t := &s.terms[i]
		s.opened = append(s.opened, s.openedBy(t)...)
		switch {
		case applies(t, mul) || applies(t, inv):
			s.generators = append(s.generators, s.reduced(productOf(t)))
		case applies(t, exp):
			s.powers = append(s.powers, *t)
		}
	}
	s.opened = inOrder(s.opened)
	s.span = s.spanOfSums()
	return s
}

func (s *set) has(t *api.Term) bool {
	_, found := placeOf(s.terms, t)
	return found
}

// lacks reports whether one of some terms is not in the set.
func (s *set) lacks(l []api.Term) bool {
	return slices.ContainsFunc(l, func(t api.Term) bool { return !s.has(&t) })
}

// missing returns the terms of a list that are not in the set.
func (s *set) missing(l []api.Term) []api.Term {
	return slices.DeleteFunc(slices.Clone(l), func(t api.Term) bool { return s.has(&t) })
}

// leadsTo reports whether one step leads from the set to a term.
func (s *set) leadsTo(t *api.Term) bool {
	return s.has(t) || s.finds(t)
}

// finds reports whether one step leads to a term that is not in the set.
func (s *set) finds(t *api.Term) bool {
	return !s.has(t) && (knowledge.Public(*t) || s.composes(t) || s.opens(t) || s.adds(t) || s.multiplies(t))
}

// composes reports whether rule 1 leads to a term.
func (s *set) composes(t *api.Term) bool {
	if t.Kind != api.TermApp {
		return false
	}
	switch t.Name {
	case pair, enc, aenc, pk, sign, hash:
		return !s.lacks(t.Kids)
	}
	return false
}

// opens reports whether rule 2 leads to a term.
func (s *set) opens(t *api.Term) bool {
	_, found := placeOf(s.opened, t)
	return found
}

// openedBy returns the terms to which rule 2 leads from a term of the set.
func (s *set) openedBy(t *api.Term) []api.Term {
	switch {
	case applies(t, pair):
		return t.Kids
	case applies(t, sign):
		return t.Kids[:1]
	case applies(t, enc) && s.has(&t.Kids[1]):
		return t.Kids[:1]
	case applies(t, aenc) && applies(&t.Kids[1], pk) && s.has(&t.Kids[1].Kids[0]):
		return t.Kids[:1]
	}
	return nil
}

// A quotient is a product that leads to a term if it is generated: from the
// base by rule 4, or by rule 5, for which the base is one().
type quotient struct {
	base    api.Term
	product []api.Power // reduced
}

// quotients returns the quotients of a term, in the order of a refusal.
func (s *set) quotients(t *api.Term) []quotient {
	l := []quotient{{base: application(one), product: s.reduced(productOf(t))}}
	base, e := factored(t)
	for _, x := range s.family(&base) {
		_, f := factored(&x)
		// Plain terms have so few factors that there is no error.
		product, _ := exponent.Mul(e, exponent.Inverse(f))
		l = append(l, quotient{base: x, product: s.reduced(product)})
	}
	return l
}

// multiplies reports whether rule 4 or 5 leads to a term.
func (s *set) multiplies(t *api.Term) bool {
	return slices.ContainsFunc(s.quotients(t), func(q quotient) bool {
		_, e := exponent.Member(s.generators, q.product)
		return e == api.OK
	})
}

// family returns the terms of the set with a base, in order: the base comes
// before its powers.
func (s *set) family(base *api.Term) []api.Term {
	var l []api.Term
	if s.has(base) {
		l = append(l, *base)
	}
	for i := range s.powers {
		if equal(s.powers[i].Kids[0], *base) {
			l = append(l, s.powers[i])
		}
	}
	return l
}

// reduced leaves out the powers whose factors are in the set. It uses the memory
// of l.
func (s *set) reduced(l []api.Power) []api.Power {
	return slices.DeleteFunc(l, func(p api.Power) bool { return s.has(&p.Term) })
}

// factored returns the base of a plain term and the product of its exponent.
func factored(t *api.Term) (api.Term, []api.Power) {
	if applies(t, exp) {
		return t.Kids[0], productOf(&t.Kids[1])
	}
	return *t, nil
}

// productOf returns the product of a term, which has one, as it is plain.
func productOf(t *api.Term) []api.Power {
	l, _ := exponent.Of(*t)
	return l
}
