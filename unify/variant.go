package unify

import (
	"slices"
	"strconv"

	"sealring/api"
	"sealring/subst"
	"sealring/term"
)

// MostGeneral reports whether s is a most general unifier of two terms.
func MostGeneral(t, u api.Term, s []api.Binding) bool {
	best, e := Unify(t, u)
	if e != api.OK || subst.Valid(s) != api.OK || !subst.Idempotent(s) {
		return false
	}
	variables := variablesIn(t, u)
	for i := range s {
		if _, found := slices.BinarySearchFunc(variables, s[i].Var, term.Compare); !found {
			return false
		}
	}
	// It makes the terms equal then, because the unifier does so, and variables
	// that are different for one of them are so for the other one.
	return variants(values(s, variables), values(best, variables))
}

// variablesIn returns the variables of both terms, in order.
func variablesIn(t, u api.Term) []api.Term {
	return term.Vars(api.Term{Kids: []api.Term{t, u}})
}

// values returns the terms that s, whose variables ascend, makes of variables.
// There can be more of them than subst.All accepts.
func values(s []api.Binding, variables []api.Term) []api.Term {
	l := slices.Clone(variables)
	for i := range l {
		at, bound := slices.BinarySearchFunc(s, l[i], func(b api.Binding, x api.Term) int {
			return term.Compare(b.Var, x)
		})
		if bound {
			l[i] = s[at].Term
		}
	}
	return l
}

// Variant reports whether two terms are variants of one another.
func Variant(t, u api.Term) bool {
	return termsError(t, u) == api.OK && variants([]api.Term{t}, []api.Term{u})
}

// variants reports whether two lists of valid terms are variants.
func variants(l, m []api.Term) bool {
	r := renaming{to: map[variable]variable{}, taken: map[variable]bool{}}
	return r.leads(l, m)
}

// A renaming is a one-to-one mapping between variables.
type renaming struct {
	to    map[variable]variable
	taken map[variable]bool // what some variable is mapped to
}

// leads reports whether the renaming can be extended so that it leads from l
// to m, and extends it.
func (r renaming) leads(l, m []api.Term) bool {
	return slices.EqualFunc(l, m, func(t, u api.Term) bool {
		if t.Kind == api.TermVar && u.Kind == api.TermVar {
			return t.Sort == u.Sort && r.maps(variableOf(&t), variableOf(&u))
		}
		return sameRoot(&t, &u) && r.leads(t.Kids, u.Kids)
	})
}

// maps reports whether x is mapped to y, or both are new, so that it can be.
func (r renaming) maps(x, y variable) bool {
	if z, mapped := r.to[x]; mapped {
		return z == y
	}
	if r.taken[y] {
		return false
	}
	r.to[x], r.taken[y] = y, true
	return true
}

// Disjoint reports whether two terms, with different variables, cannot be
// unified.
func Disjoint(t, u api.Term) bool {
	if termsError(t, u) != api.OK {
		return false
	}
	// How variables are named does not matter for the error: it decides only
	// which one of two variables is bound to the other one.
	_, e := Unify(renamed(t, "t"), renamed(u, "u"))
	return e == api.ErrClash || e == api.ErrOccurs
}

// renamed returns t with new variables, whose names begin with a letter. With
// subst.Rename, names could become too long.
func renamed(t api.Term, letter string) api.Term {
	names := map[variable]string{}
	for i, x := range term.Vars(t) {
		names[variableOf(&x)] = letter + strconv.Itoa(i)
	}
	u := copyOf(&t)
	rename(&u, names)
	return u
}

// rename gives the variables of t, which is changed, other names.
func rename(t *api.Term, names map[variable]string) {
	if t.Kind == api.TermVar {
		t.Name = names[variableOf(t)]
	}
	for i := range t.Kids {
		rename(&t.Kids[i], names)
	}
}
