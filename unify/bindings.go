package unify

import (
	"cmp"
	"maps"
	"slices"
	"strings"

	"sealring/api"
	"sealring/term"
)

// A variable is what tells a variable from others.
type variable struct {
	name string
	sort int
}

func variableOf(x *api.Term) variable {
	return variable{x.Name, x.Sort}
}

// term returns the variable as a term.
func (v variable) term() api.Term {
	return api.Term{Kind: api.TermVar, Name: v.name, Sort: v.sort}
}

// compare compares variables by the order of terms.
func (v variable) compare(w variable) int {
	return cmp.Or(strings.Compare(v.name, w.name), cmp.Compare(v.sort, w.sort))
}

// variablesOf returns the variables that have terms, in order.
func variablesOf(terms map[variable]*api.Term) []variable {
	return slices.SortedFunc(maps.Keys(terms), variable.compare)
}

// copyOf returns a term that is equal to t and shares no memory with it.
func copyOf(t *api.Term) api.Term {
	// There always is a position of the term itself.
	c, _ := term.At(*t, nil)
	return c
}

// Bindings have the terms to which variables are bound. Variables in these
// terms can be bound themselves (but never in a circle): putting in a term for
// a variable everywhere would take quadratic time.
type bindings map[variable]*api.Term

func (s bindings) bind(x, t *api.Term) {
	s[variableOf(x)] = t
}

// value returns the term for which t stands if t is a bound variable, and
// otherwise t. It is no bound variable.
func (s bindings) value(t *api.Term) *api.Term {
	if t.Kind != api.TermVar {
		return t
	}
	x := variableOf(t)
	next, bound := s[x]
	if !bound {
		return t
	}
	end := s.value(next)
	if end != next {
		// Nobody should have to go through a long chain of variables again.
		s[x] = end
	}
	return end
}

// occurs reports whether x, which is not bound, occurs in t with its values.
func (s bindings) occurs(x variable, t *api.Term) bool {
	t = s.value(t)
	if t.Kind == api.TermVar {
		return variableOf(t) == x
	}
	for i := range t.Kids {
		if s.occurs(x, &t.Kids[i]) {
			return true
		}
	}
	return false
}

// allKeepLimits reports whether the terms of all bindings keep the limits.
func (s bindings) allKeepLimits() bool {
	for _, x := range variablesOf(s) {
		if !s.keepsLimits(s[x]) {
			return false
		}
	}
	return true
}

// keepsLimits reports whether t with its values has neither too many nodes nor
// too many levels.
func (s bindings) keepsLimits(t *api.Term) bool {
	nodes := 0
	return s.count(t, 1, &nodes)
}

// count adds up the nodes of t, which stands on a level, with its values. It
// returns false as soon as a limit is exceeded: there can be far too many
// nodes to be counted all.
func (s bindings) count(t *api.Term, level int, nodes *int) bool {
	*nodes++
	if *nodes > api.MaxNodes || level > api.MaxDepth {
		return false
	}
	t = s.value(t)
	for i := range t.Kids {
		if !s.count(&t.Kids[i], level+1, nodes) {
			return false
		}
	}
	return true
}

// list returns the substitution, which binds each variable to its term with
// the values put in.
func (s bindings) list() []api.Binding {
	l := make([]api.Binding, 0, len(s))
	for _, x := range variablesOf(s) {
		l = append(l, api.Binding{Var: x.term(), Term: s.put(s[x])})
	}
	return l
}

// put returns t with the values of its variables put in.
func (s bindings) put(t *api.Term) api.Term {
	t = s.value(t)
	u := api.Term{Kind: t.Kind, Name: t.Name, Sort: t.Sort}
	if len(t.Kids) == 0 {
		return u
	}
	u.Kids = make([]api.Term, len(t.Kids))
	for i := range t.Kids {
		u.Kids[i] = s.put(&t.Kids[i])
	}
	return u
}
