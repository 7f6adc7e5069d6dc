package rewrite

import (
	"slices"

	"sealring/api"
	"sealring/term"
	"sealring/unify"
)

// Redexes returns all redexes of a term, by position in preorder, then by
// rule.
func Redexes(rules []api.Rule, t api.Term) []api.Redex {
	if argumentsError(rules, t) != api.OK {
		return nil
	}
	return redexes(rules, &t, nil, nil)
}

// redexes appends to l the redexes of t, which stands at the position at.
func redexes(rules []api.Rule, t *api.Term, at []int, l []api.Redex) []api.Redex {
	for i := range rules {
		if _, ok := match(&rules[i], t); ok {
			l = append(l, api.Redex{Rule: i, Position: slices.Clone(at)})
		}
	}
	for i := range t.Kids {
		// The next kid may overwrite what is appended here: l has copies only.
		l = redexes(rules, &t.Kids[i], append(at, i), l)
	}
	return l
}

// IsNormal reports whether rules and term are valid, and the term is in normal
// form.
func IsNormal(rules []api.Rule, t api.Term) bool {
	return argumentsError(rules, t) == api.OK && !hasRedex(rules, &t)
}

// hasRedex reports whether t, or a part of it, is an instance of a left side.
func hasRedex(rules []api.Rule, t *api.Term) bool {
	if _, _, found := firstRule(rules, t); found {
		return true
	}
	for i := range t.Kids {
		if hasRedex(rules, &t.Kids[i]) {
			return true
		}
	}
	return false
}

// firstRule returns the index of the least rule of whose Left t is an
// instance, the substitution for it, and whether there is one.
func firstRule(rules []api.Rule, t *api.Term) (int, []api.Binding, bool) {
	for i := range rules {
		if s, ok := match(&rules[i], t); ok {
			return i, s, true
		}
	}
	return 0, nil, false
}

// match returns the substitution that makes t of the Left of a rule, and
// whether there is one.
func match(r *api.Rule, t *api.Term) ([]api.Binding, bool) {
	if !resembles(&r.Left, t) {
		return nil, false
	}
	s, e := unify.Match(r.Left, *t)
	return s, e == api.OK
}

// resembles reports whether t has the symbols of a left side where this has no
// variable. All instances do, and most other terms are told apart here at
// little cost, while unify.Match asks first whether both terms are valid.
func resembles(left, t *api.Term) bool {
	if left.Kind == api.TermVar {
		return true
	}
	if left.Kind != t.Kind || left.Name != t.Name || left.Sort != t.Sort || len(left.Kids) != len(t.Kids) {
		return false
	}
	for i := range left.Kids {
		if !resembles(&left.Kids[i], &t.Kids[i]) {
			return false
		}
	}
	return true
}

// Apply returns the term that a redex leads to.
func Apply(rules []api.Rule, t api.Term, r api.Redex) (api.Term, api.Errno) {
	if e := argumentsError(rules, t); e != api.OK {
		return api.Term{}, e
	}
	return apply(rules, t, r)
}

// apply is Apply for rules and a term that are known to be valid.
func apply(rules []api.Rule, t api.Term, r api.Redex) (api.Term, api.Errno) {
	if r.Rule < 0 || r.Rule >= len(rules) {
		return api.Term{}, api.ErrRange
	}
	part, e := term.At(t, r.Position)
	if e != api.OK {
		return api.Term{}, e
	}
	rule := &rules[r.Rule]
	s, ok := match(rule, &part)
	if !ok {
		return api.Term{}, api.ErrClash
	}
	u, e := term.Replace(t, r.Position, instance(s, &rule.Right))
	if e != api.OK {
		return api.Term{}, e
	}
	if e := term.Valid(u); e != api.OK {
		return api.Term{}, e
	}
	return u, api.OK
}

// instance returns t with the terms of s, whose variables ascend, in the place
// of its variables. A left side may have more variables than the substitutions
// that subst.Apply accepts.
func instance(s []api.Binding, t *api.Term) api.Term {
	if t.Kind == api.TermVar {
		return valueOf(s, t)
	}
	u := api.Term{Kind: t.Kind, Name: t.Name, Sort: t.Sort}
	if len(t.Kids) == 0 {
		return u
	}
	u.Kids = make([]api.Term, len(t.Kids))
	for i := range t.Kids {
		u.Kids[i] = instance(s, &t.Kids[i])
	}
	return u
}

// valueOf returns the term for which a variable stands: itself, if it is not
// bound. Each place gets a copy of its own, because parts of a result share no
// memory.
func valueOf(s []api.Binding, x *api.Term) api.Term {
	i, bound := slices.BinarySearchFunc(s, *x, func(b api.Binding, x api.Term) int {
		return term.Compare(b.Var, x)
	})
	if !bound {
		return copyOf(x)
	}
	return copyOf(&s[i].Term)
}
