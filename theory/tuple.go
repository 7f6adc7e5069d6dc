package theory

import (
	"slices"

	"sealring/api"
)

// Key returns what opens a term that is encrypted.
func Key(t api.Term) (api.Term, api.Errno) {
	if e := Valid(t); e != api.OK {
		return api.Term{}, e
	}
	switch {
	case applies(&t, enc):
		return copyOf(&t.Kids[1]), api.OK
	case !applies(&t, aenc):
		return api.Term{}, api.ErrType
	case !applies(&t.Kids[1], pk):
		return api.Term{}, api.ErrNotFound
	}
	return copyOf(&t.Kids[1].Kids[0]), api.OK
}

// Tuple returns the pairs to the right of some terms.
func Tuple(l []api.Term) (api.Term, api.Errno) {
	switch {
	case len(l) == 0:
		return api.Term{}, api.ErrEmpty
	case len(l) > api.MaxTerms:
		// Any way to put so many terms in pairs has too many nodes, and shows
		// what else is wrong with them before. A tuple might have more levels
		// than calls can have.
		return api.Term{}, Valid(flat(l))
	}
	t := tuple(l)
	if e := Valid(t); e != api.OK {
		return api.Term{}, e
	}
	return copyOf(&t), api.OK
}

// tuple returns the tuple of at least one term. It shares memory with l.
func tuple(l []api.Term) api.Term {
	last := len(l) - 1
	t := l[last]
	for _, first := range slices.Backward(l[:last]) {
		t = application(pair, first, t)
	}
	return t
}

// flat returns at least one term, in order, in pairs with few levels. It
// shares memory with l.
func flat(l []api.Term) api.Term {
	if len(l) == 1 {
		return l[0]
	}
	half := len(l) / 2
	return application(pair, flat(l[:half]), flat(l[half:]))
}

// Untuple returns the terms of which t is the tuple, as many as possible.
func Untuple(t api.Term) []api.Term {
	var l []api.Term
	rest := &t
	for applies(rest, pair) && len(rest.Kids) == 2 {
		l = append(l, copyOf(&rest.Kids[0]))
		rest = &rest.Kids[1]
	}
	return append(l, copyOf(rest))
}
