package exponent

import (
	"sealring/api"
	"sealring/term"
)

// Of returns the product of a term.
func Of(t api.Term) ([]api.Power, api.Errno) {
	if e := term.Valid(t); e != api.OK {
		return nil, e
	}
	l, e := occurrences(&t, 1, nil)
	if e != api.OK {
		return nil, e
	}
	l = gathered(l)
	if len(l) > api.MaxTerms {
		return nil, api.ErrTooLarge
	}
	return scaled(l, 1), api.OK
}

// occurrences appends to l each occurrence of a factor in the n-th power of t,
// where n is 1 or -1.
func occurrences(t *api.Term, n int, l []api.Power) ([]api.Power, api.Errno) {
	if !isExponent(t) {
		return append(l, api.Power{Term: *t, N: n}), api.OK
	}
	if !hasItsKids(t) {
		return nil, api.ErrArity
	}
	if t.Name == inv {
		n = -n
	}
	for i := range t.Kids {
		var e api.Errno
		if l, e = occurrences(&t.Kids[i], n, l); e != api.OK {
			return nil, e
		}
	}
	return l, api.OK
}

// hasItsKids reports whether an application of a symbol of exponents has a
// right number of kids.
func hasItsKids(t *api.Term) bool {
	switch t.Name {
	case mul:
		return len(t.Kids) >= 2
	case inv:
		return len(t.Kids) == 1
	}
	return len(t.Kids) == 0
}

// Term returns the term of a product.
func Term(l []api.Power) (api.Term, api.Errno) {
	if e := productError(l); e != api.OK {
		return api.Term{}, e
	}
	count := 0
	for _, p := range l {
		count += absolute(p.N)
	}
	if count > api.MaxKids {
		return api.Term{}, api.ErrTooLarge
	}
	t := product(operands(l))
	if e := term.Valid(t); e != api.OK {
		return api.Term{}, e
	}
	return t, api.OK
}

// operands returns the operands of the term of a product.
func operands(l []api.Power) []api.Term {
	var all []api.Term
	for _, p := range l {
		for range p.N {
			all = append(all, copyOf(&p.Term))
		}
	}
	for _, p := range l {
		for range -p.N {
			all = append(all, application(inv, copyOf(&p.Term)))
		}
	}
	return all
}

// product returns the term of a product with these operands.
func product(operands []api.Term) api.Term {
	switch len(operands) {
	case 0:
		return application(one)
	case 1:
		return operands[0]
	}
	return application(mul, operands...)
}

func application(name string, kids ...api.Term) api.Term {
	return api.Term{Kind: api.TermApp, Name: name, Kids: kids}
}
