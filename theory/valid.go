package theory

import (
	"sealring/api"
	"sealring/term"
)

// Valid returns the error of a term in the theory, or OK.
func Valid(t api.Term) api.Errno {
	if e := term.Valid(t); e != api.OK {
		return e
	}
	return nodesError(&t)
}

// nodesError returns the first error in how a valid term applies symbols, in
// preorder.
func nodesError(t *api.Term) api.Errno {
	if t.Kind != api.TermApp {
		return api.OK
	}
	if e := nodeError(t); e != api.OK {
		return e
	}
	for i := range t.Kids {
		if e := nodesError(&t.Kids[i]); e != api.OK {
			return e
		}
	}
	return api.OK
}

// nodeError returns the error of the application at the root of t alone.
func nodeError(t *api.Term) api.Errno {
	s, found := symbolOf(t.Name)
	switch {
	case !found:
		return api.ErrType
	case len(t.Kids) < s.Least || len(t.Kids) > s.Most:
		return api.ErrArity
	case !hasRightKids(t):
		return api.ErrType
	}
	return api.OK
}

// hasRightKids reports whether the kids of an application are what its symbol
// asks for. Their number is right.
func hasRightKids(t *api.Term) bool {
	switch t.Name {
	case sk:
		return isAgent(&t.Kids[0])
	case shk:
		return isAgent(&t.Kids[0]) && isAgent(&t.Kids[1])
	case fresh:
		return t.Kids[0].Kind == api.TermAtom
	}
	return true
}

// isAgent reports whether t is an atom or a variable of SortAgent.
func isAgent(t *api.Term) bool {
	return t.Kind != api.TermApp && t.Sort == api.SortAgent
}

// Free reports whether a term is free.
func Free(t api.Term) bool {
	return Valid(t) == api.OK && !has(&t, isDestructor) && !has(&t, isAlgebraic)
}

// Plain reports whether a term is plain.
func Plain(t api.Term) bool {
	if Valid(t) != api.OK || has(&t, isDestructor) {
		return false
	}
	n, e := normal(&t)
	return e == api.OK && equal(n, t)
}

// has reports whether t has an application of one of some symbols.
func has(t *api.Term, some func(name string) bool) bool {
	if t.Kind == api.TermApp && some(t.Name) {
		return true
	}
	for i := range t.Kids {
		if has(&t.Kids[i], some) {
			return true
		}
	}
	return false
}

func isDestructor(name string) bool {
	s, _ := symbolOf(name)
	return s.Kind == api.SymDestructor
}

// isAlgebraic reports whether a name is a symbol of sums or of exponents.
func isAlgebraic(name string) bool {
	switch name {
	case sum, zero, exp, mul, inv, one:
		return true
	}
	return false
}
