package unify

import (
	"sealring/api"
	"sealring/subst"
	"sealring/term"
)

// Match returns the substitution of variables of pattern that makes t of it.
func Match(pattern, t api.Term) ([]api.Binding, api.Errno) {
	if e := termsError(pattern, t); e != api.OK {
		return nil, e
	}
	m := matches{}
	if !m.match(&pattern, &t) {
		return nil, api.ErrClash
	}
	return m.list(), api.OK
}

// Instance reports whether t is an instance of u.
func Instance(t, u api.Term) bool {
	_, e := Match(u, t)
	return e == api.OK
}

// Matches have what variables of a pattern are replaced by, which can be
// themselves. Other than in bindings, variables of these terms are those of
// the other term, and stand for nothing.
type matches map[variable]*api.Term

// match reports whether the matches can be extended so that t is made of the
// pattern, and extends them.
func (m matches) match(pattern, t *api.Term) bool {
	if pattern.Kind == api.TermVar {
		return m.matchVariable(pattern, t)
	}
	if !sameRoot(pattern, t) {
		return false
	}
	for i := range pattern.Kids {
		if !m.match(&pattern.Kids[i], &t.Kids[i]) {
			return false
		}
	}
	return true
}

func (m matches) matchVariable(x, t *api.Term) bool {
	if known, found := m[variableOf(x)]; found {
		return term.Compare(*known, *t) == 0
	}
	m[variableOf(x)] = t
	return subst.Fits(*x, *t)
}

// list returns the substitution, without variables that stay as they are.
func (m matches) list() []api.Binding {
	var l []api.Binding
	for _, v := range variablesOf(m) {
		x, t := v.term(), m[v]
		if term.Compare(x, *t) != 0 {
			l = append(l, api.Binding{Var: x, Term: copyOf(t)})
		}
	}
	return l
}
