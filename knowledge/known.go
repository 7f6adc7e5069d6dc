package knowledge

import (
	"slices"

	"sealring/api"
	"sealring/term"
)

// Universe returns the universe of k and t.
func Universe(k []api.Term, t api.Term) ([]api.Term, api.Errno) {
	u, e := asked(k, t)
	if e != api.OK {
		return nil, e
	}
	return u.terms, api.OK
}

// asked returns the universe of a list and further terms, or its error.
func asked(k []api.Term, further ...api.Term) (*universe, api.Errno) {
	if len(k) > maxGiven {
		return nil, api.ErrTooLarge
	}
	all := slices.Concat(k, further)
	if e := termsError(all); e != api.OK {
		return nil, e
	}
	return universeOf(all)
}

// Known returns what is known of a universe.
func Known(k []api.Term, universe []api.Term) ([]api.Term, api.Errno) {
	if len(k) > maxGiven || len(universe) > api.MaxTerms {
		return nil, api.ErrTooLarge
	}
	all := slices.Concat(k, universe)
	if e := termsError(all); e != api.OK {
		return nil, e
	}
	// The universe has them all exactly if they are not more than its own terms.
	if len(term.Subterms(all)) > distinct(universe) {
		return nil, api.ErrNotFound
	}
	u, e := universeOf(universe)
	if e != api.OK {
		return nil, e
	}
	return u.closed(k).all(), api.OK
}

// distinct returns the number of different terms of a list.
func distinct(l []api.Term) int {
	l = slices.Clone(l)
	slices.SortFunc(l, term.Compare)
	return len(slices.CompactFunc(l, equal))
}

// all returns the known terms. It takes them out of the universe.
func (c *closure) all() []api.Term {
	var l []api.Term
	for i, known := range c.known {
		if known {
			l = append(l, c.terms[i])
		}
	}
	return l
}

// Derivable reports whether t is derivable from k.
func Derivable(k []api.Term, t api.Term) (bool, api.Errno) {
	u, e := asked(k, t)
	if e != api.OK {
		return false, e
	}
	return u.closed(k).known[u.place(t)], api.OK
}

// Analyze returns the known subterms of k.
func Analyze(k []api.Term) ([]api.Term, api.Errno) {
	u, e := asked(k)
	if e != api.OK {
		return nil, e
	}
	return u.closed(k).all(), api.OK
}

// Minimal returns what is left of k if terms that others derive are left out,
// from the last one on.
func Minimal(k []api.Term) ([]api.Term, api.Errno) {
	if _, e := asked(k); e != api.OK {
		return nil, e
	}
	left := k
	for i := len(k) - 1; i >= 0; i-- {
		others := slices.Delete(slices.Clone(left), i, i+1)
		if derives(others, left[i]) {
			left = others
		}
	}
	var l []api.Term
	for i := range left {
		l = append(l, copyOf(&left[i]))
	}
	return l, api.OK
}

// derives is Derivable for terms of a list that has no error.
func derives(k []api.Term, t api.Term) bool {
	u, e := universeOf(append(slices.Clone(k), t))
	return e == api.OK && u.closed(k).known[u.place(t)]
}

// Opens returns the single keys that are missing to derive t from k.
func Opens(k []api.Term, t api.Term) ([]api.Term, api.Errno) {
	u, e := asked(k, t)
	if e != api.OK {
		return nil, e
	}
	c, goal := u.closed(k), u.place(t)
	if c.known[goal] {
		return nil, api.OK
	}
	var l []api.Term
	for _, i := range u.keys() {
		if !c.known[i] && c.with(i).known[goal] {
			l = append(l, u.terms[i])
		}
	}
	return l, api.OK
}

// Same reports whether all terms of l are derivable from k, and all terms of k
// from l.
func Same(k, l []api.Term) (bool, api.Errno) {
	for _, list := range [][]api.Term{k, l} {
		if _, e := asked(list); e != api.OK {
			return false, e
		}
	}
	for _, both := range [][2][]api.Term{{k, l}, {l, k}} {
		for _, t := range both[1] {
			if is, e := Derivable(both[0], t); !is || e != api.OK {
				return false, e
			}
		}
	}
	return true, api.OK
}
