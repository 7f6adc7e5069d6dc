package xor

import (
	"sealring/api"
	"sealring/term"
)

// Parts returns the summands of a term.
func Parts(t api.Term) ([]api.Term, api.Errno) {
	if e := term.Valid(t); e != api.OK {
		return nil, e
	}
	return copies(summands(t)), api.OK
}

// Sum returns the sum of the terms of a list.
func Sum(l []api.Term) (api.Term, api.Errno) {
	if e := listError(l); e != api.OK {
		return api.Term{}, e
	}
	t := sum(summands(l...))
	if e := term.Valid(t); e != api.OK {
		return api.Term{}, e
	}
	return copies([]api.Term{t})[0], api.OK
}

// Add returns the sum of two terms.
func Add(a, b api.Term) (api.Term, api.Errno) {
	return Sum([]api.Term{a, b})
}

// sum returns the term that has these summands. It shares memory with l.
func sum(l []api.Term) api.Term {
	switch len(l) {
	case 0:
		return api.Term{Kind: api.TermApp, Name: zero}
	case 1:
		return l[0]
	}
	return api.Term{Kind: api.TermApp, Name: xor, Kids: l}
}
