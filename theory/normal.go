package theory

import (
	"sealring/api"
	"sealring/exponent"
	"sealring/term"
	"sealring/xor"
)

// Normal returns the normal form of a term.
func Normal(t api.Term) (api.Term, api.Errno) {
	if e := Valid(t); e != api.OK {
		return api.Term{}, e
	}
	n, e := normal(&t)
	if e != api.OK {
		return api.Term{}, e
	}
	if e := term.Valid(n); e != api.OK {
		return api.Term{}, e
	}
	return n, api.OK
}

// Equal reports whether both terms have normal forms, and these are equal.
func Equal(t, u api.Term) bool {
	m, e := Normal(t)
	if e != api.OK {
		return false
	}
	n, e := Normal(u)
	return e == api.OK && equal(m, n)
}

// normal is Normal for a term that is valid in the theory, but its result may
// be too large. All of its memory is new.
func normal(t *api.Term) (api.Term, api.Errno) {
	n := api.Term{Kind: t.Kind, Name: t.Name, Sort: t.Sort}
	if len(t.Kids) > 0 {
		n.Kids = make([]api.Term, len(t.Kids))
	}
	for i := range t.Kids {
		kid, e := normal(&t.Kids[i])
		if e != api.OK {
			return api.Term{}, e
		}
		n.Kids[i] = kid
	}
	if n.Kind != api.TermApp {
		return n, api.OK
	}
	return reduced(n)
}

// reduced returns the normal form of an application whose kids are in normal
// form. It may use their memory.
func reduced(t api.Term) (api.Term, api.Errno) {
	switch t.Name {
	case fst, snd, dec, adec, open, read:
		return opened(t), api.OK
	case sum:
		return xor.Sum(t.Kids)
	case mul, inv, one:
		product, e := exponent.Of(t)
		if e != api.OK {
			return api.Term{}, e
		}
		return exponent.Term(product)
	case exp:
		return power(t.Kids[0], t.Kids[1])
	}
	return t, api.OK
}

// opened returns what the rule of a destructor leads to, or the application
// itself, if the rule does not fit. The rules are not applied by package
// rewrite, which would refuse terms that are too large, as long as they are
// not at the end.
func opened(t api.Term) api.Term {
	closed := &t.Kids[0]
	switch {
	case t.Name == fst && applies(closed, pair):
		return closed.Kids[0]
	case t.Name == snd && applies(closed, pair):
		return closed.Kids[1]
	case t.Name == dec && applies(closed, enc) && equal(closed.Kids[1], t.Kids[1]):
		return closed.Kids[0]
	case t.Name == adec && applies(closed, aenc) && isPublicOf(&closed.Kids[1], &t.Kids[1]):
		return closed.Kids[0]
	case t.Name == open && applies(closed, sign) && isPublicOf(&t.Kids[1], &closed.Kids[1]):
		return closed.Kids[0]
	case t.Name == read && applies(closed, sign):
		return closed.Kids[0]
	}
	return t
}

// isPublicOf reports whether a term is the public key of a private key.
func isPublicOf(public, private *api.Term) bool {
	return applies(public, pk) && equal(public.Kids[0], *private)
}

// power returns the normal form of exp(b, e) for b and e in normal form.
func power(b, e api.Term) (api.Term, api.Errno) {
	base, product, err := factored(b)
	if err != api.OK {
		return api.Term{}, err
	}
	further, err := exponent.Of(e)
	if err != api.OK {
		return api.Term{}, err
	}
	if product, err = exponent.Mul(product, further); err != api.OK {
		return api.Term{}, err
	}
	if len(product) == 0 {
		return base, api.OK
	}
	whole, err := exponent.Term(product)
	if err != api.OK {
		return api.Term{}, err
	}
	return application(exp, base, whole), api.OK
}

// factored returns the base of a term in normal form, which is no exp, and the
// product of its exponent.
func factored(b api.Term) (api.Term, []api.Power, api.Errno) {
	if !applies(&b, exp) {
		return b, nil, api.OK
	}
	product, e := exponent.Of(b.Kids[1])
	return b.Kids[0], product, e
}
