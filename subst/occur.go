package subst

import (
	"cmp"
	"slices"

	"sealring/api"
	"sealring/term"
)

// Restrict returns the bindings of s whose variables occur in one of the terms
// of l.
func Restrict(s []api.Binding, l []api.Term) []api.Binding {
	var kept []api.Binding
	for i, occurs := range occurring(s, l) {
		if occurs {
			kept = append(kept, copyOfBinding(s[i]))
		}
	}
	return kept
}

// Idempotent reports whether none of the variables of s occurs in one of its
// terms.
func Idempotent(s []api.Binding) bool {
	l := make([]api.Term, len(s))
	for i := range s {
		l[i] = s[i].Term
	}
	return !slices.Contains(occurring(s, l), true)
}

// occurring says of each binding of s whether its variable occurs in one of
// the terms of l.
func occurring(s []api.Binding, l []api.Term) []bool {
	variables := variablesOf(s)
	for i := range l {
		mark(variables, &l[i])
	}
	occurs := make([]bool, len(s))
	for i := range variables {
		x := &variables[i]
		// Only the first one of equal variables has been marked.
		if i > 0 && x.compare(variables[i-1].sized) == 0 {
			x.occurs = variables[i-1].occurs
		}
		occurs[x.binding] = x.occurs
	}
	return occurs
}

// A sized term has its size with it. Terms that are not valid may be deep, and
// if the size of each of their subterms were counted anew for each comparison,
// they would take quadratic time.
type sized struct {
	term *api.Term
	size int
}

// compare compares by the order of terms.
func (a sized) compare(b sized) int {
	if a.size != b.size {
		return cmp.Compare(a.size, b.size)
	}
	return term.Compare(*a.term, *b.term)
}

// A sought term is the variable of a binding that may occur in some terms.
type sought struct {
	sized
	binding int
	occurs  bool
}

// variablesOf returns the variables of s, in the order of terms.
func variablesOf(s []api.Binding) []sought {
	l := make([]sought, len(s))
	for i := range s {
		x := &s[i].Var
		l[i] = sought{sized: sized{x, term.Size(*x)}, binding: i}
	}
	slices.SortFunc(l, func(a, b sought) int { return a.compare(b.sized) })
	return l
}

// mark notes which variables, given in the order of terms, are subterms of t;
// of equal ones only the first one is noted. It returns the size of t.
func mark(variables []sought, t *api.Term) int {
	size := 1
	for i := range t.Kids {
		size += mark(variables, &t.Kids[i])
	}
	i, found := slices.BinarySearchFunc(variables, sized{t, size}, func(x sought, t sized) int { return x.compare(t) })
	if found {
		variables[i].occurs = true
	}
	return size
}
