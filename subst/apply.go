package subst

import (
	"slices"

	"sealring/api"
	"sealring/term"
)

// Apply returns the term to which the substitution s is applied.
func Apply(s []api.Binding, t api.Term) (api.Term, api.Errno) {
	if e := Valid(s); e != api.OK {
		return api.Term{}, e
	}
	return apply(s, t)
}

// All returns the terms of l to which the substitution s is applied, in order.
func All(s []api.Binding, l []api.Term) ([]api.Term, api.Errno) {
	if e := Valid(s); e != api.OK {
		return nil, e
	}
	if len(l) > api.MaxTerms {
		return nil, api.ErrTooLarge
	}
	applied := make([]api.Term, len(l))
	for i := range l {
		t, e := apply(s, l[i])
		if e != api.OK {
			return nil, e
		}
		applied[i] = t
	}
	return applied, api.OK
}

// apply is Apply for a substitution that is known to be valid.
func apply(s []api.Binding, t api.Term) (api.Term, api.Errno) {
	if e := term.Valid(t); e != api.OK {
		return api.Term{}, e
	}
	u := replaced(s, &t)
	if e := term.Valid(u); e != api.OK {
		return api.Term{}, e
	}
	return u, api.OK
}

// replaced returns t with the terms of s in the place of its variables. Each
// place gets a copy of its own, because parts of a result share no memory.
func replaced(s []api.Binding, t *api.Term) api.Term {
	if t.Kind == api.TermVar {
		if i, bound := find(s, *t); bound {
			return copyOf(s[i].Term)
		}
	}
	u := api.Term{Kind: t.Kind, Name: t.Name, Sort: t.Sort}
	if len(t.Kids) == 0 {
		return u
	}
	u.Kids = make([]api.Term, len(t.Kids))
	for i := range t.Kids {
		u.Kids[i] = replaced(s, &t.Kids[i])
	}
	return u
}

// find returns the index of the binding of x in a valid substitution, whose
// variables are in order, and whether there is one.
func find(s []api.Binding, x api.Term) (int, bool) {
	return slices.BinarySearchFunc(s, x, func(b api.Binding, x api.Term) int {
		return term.Compare(b.Var, x)
	})
}

// Compose returns the composition: the substitution that has the effect of
// first s and then t.
func Compose(s, t []api.Binding) ([]api.Binding, api.Errno) {
	if e := Valid(s); e != api.OK {
		return nil, e
	}
	if e := Valid(t); e != api.OK {
		return nil, e
	}
	composed, e := followed(s, t)
	if e != api.OK {
		return nil, e
	}
	for i := range t {
		if _, bound := find(s, t[i].Var); !bound {
			composed = append(composed, copyOfBinding(t[i]))
		}
	}
	if len(composed) > api.MaxTerms {
		return nil, api.ErrTooLarge
	}
	slices.SortFunc(composed, func(a, b api.Binding) int { return term.Compare(a.Var, b.Var) })
	return composed, api.OK
}

// followed returns the bindings of s to whose terms t is applied, without
// those in which both sides are equal then.
func followed(s, t []api.Binding) ([]api.Binding, api.Errno) {
	var l []api.Binding
	for i := range s {
		u, e := apply(t, s[i].Term)
		if e != api.OK {
			return nil, e
		}
		if !same(s[i].Var, u) {
			l = append(l, api.Binding{Var: copyOf(s[i].Var), Term: u})
		}
	}
	return l, api.OK
}
