package unify_test

import (
	"math/rand/v2"
	"slices"
	"testing"

	"sealring/api"
	"sealring/subst"
	"sealring/term"
	"sealring/unify"
)

// P3.1: Match returns the substitution of variables of the pattern that makes
// the other term of it; Instance reports whether there is one.
func TestMatch(t *testing.T) {
	for _, c := range []struct {
		pattern, t string
		want       []string
		e          api.Errno
	}{
		{"?x", "a:any", []string{"?x", "a:any"}, api.OK},
		{"?x", "a:nonce", []string{"?x", "a:nonce"}, api.OK},
		{"?x", "f(?y:key, a:any)", []string{"?x", "f(?y:key, a:any)"}, api.OK},
		{"f(?y, ?x)", "f(a:any, g())", []string{"?x", "g()", "?y", "a:any"}, api.OK},
		{"f(?x, g(?x))", "f(a:any, g(a:any))", []string{"?x", "a:any"}, api.OK},
		{"f(?x, g(?x))", "f(a:any, g(b:any))", nil, api.ErrClash},
		{"f(?x, g(?x))", "f(a:any, g(a:key))", nil, api.ErrClash},
		{"f(?x, ?x)", "f(h(a:any), h(a:any))", []string{"?x", "h(a:any)"}, api.OK},
		{"f(?x, ?x)", "f(h(a:any), h())", nil, api.ErrClash},
		{"a:any", "a:any", nil, api.OK},
		{"f(a:any, g())", "f(a:any, g())", nil, api.OK},
		{"a:any", "a:key", nil, api.ErrClash},
		{"a:any", "b:any", nil, api.ErrClash},
		{"a:any", "a()", nil, api.ErrClash},
		{"a()", "a:any", nil, api.ErrClash},
		{"f(?x)", "g(?x)", nil, api.ErrClash},
		{"f(?x)", "f(a:any, a:any)", nil, api.ErrClash},
		{"f(?x)", "f()", nil, api.ErrClash},

		// variables of the other term are not replaced
		{"a:any", "?x", nil, api.ErrClash},
		{"f(?y)", "?x", nil, api.ErrClash},
		{"f(a:any)", "f(?x)", nil, api.ErrClash},
		{"f(?x, ?x)", "f(?y, ?z)", nil, api.ErrClash},
		{"?x", "?y", []string{"?x", "?y"}, api.OK},
		{"?y", "?x", []string{"?y", "?x"}, api.OK},
		{"?x", "f(?x)", []string{"?x", "f(?x)"}, api.OK},
		{"f(?x, ?y)", "f(?y, ?x)", []string{"?x", "?y", "?y", "?x"}, api.OK},
		{"f(?x, ?y, ?x)", "f(?y, a:any, ?y)", []string{"?x", "?y", "?y", "a:any"}, api.OK},
		{"f(?x, ?y, ?x)", "f(?y, a:any, a:any)", nil, api.ErrClash},

		// a variable may stay as it is, but is not bound to itself
		{"?x", "?x", nil, api.OK},
		{"f(?x, ?y)", "f(?x, g(?x))", []string{"?y", "g(?x)"}, api.OK},
		{"f(?x, ?y)", "f(g(?y), ?y)", []string{"?x", "g(?y)"}, api.OK},
		{"f(?x, ?x)", "f(?x, ?x)", nil, api.OK},
		{"f(?x, ?x)", "f(?x, ?y)", nil, api.ErrClash},
		{"f(?x, ?x)", "f(?y, ?x)", nil, api.ErrClash},

		// sorts
		{"?x:nonce", "a:nonce", []string{"?x:nonce", "a:nonce"}, api.OK},
		{"?x:nonce", "?y:nonce", []string{"?x:nonce", "?y:nonce"}, api.OK},
		{"?x:nonce", "?x:nonce", nil, api.OK},
		{"?x:nonce", "a:key", nil, api.ErrClash},
		{"?x:nonce", "a:any", nil, api.ErrClash},
		{"?x:nonce", "?y", nil, api.ErrClash},
		{"?x:nonce", "?x", nil, api.ErrClash},
		{"?x:nonce", "?x:key", nil, api.ErrClash},
		{"?x:nonce", "f()", nil, api.ErrClash},
		{"?x", "?x:nonce", []string{"?x", "?x:nonce"}, api.OK},
		{"f(?x, ?x:key)", "f(b:any, a:key)", []string{"?x", "b:any", "?x:key", "a:key"}, api.OK},
		{"f(?x:tag, ?x:data)", "f(a:tag, a:data)", []string{"?x:data", "a:data", "?x:tag", "a:tag"}, api.OK},
	} {
		p, u := must(t, c.pattern), must(t, c.t)
		l, e := unify.Match(p, u)
		if e != c.e || !sameBindings(l, binds(t, c.want...)) {
			t.Errorf("%s, %s: %s, %v", c.pattern, c.t, show(l), e)
		}
		if unify.Instance(u, p) != (c.e == api.OK) {
			t.Errorf("Instance: %s, %s", c.t, c.pattern)
		}
	}
}

// P3.1: the errors of Match, the pattern first; Instance is false for them.
func TestMatchErrors(t *testing.T) {
	a, x := atom("a", api.SortAny), variable("x", api.SortAny)
	check := func(what string, p, u api.Term, want api.Errno) {
		t.Helper()
		if l, e := unify.Match(p, u); e != want || len(l) != 0 {
			t.Errorf("%s: %s, %v, not %v", what, show(l), e, want)
		}
		if unify.Instance(u, p) {
			t.Errorf("%s: an instance", what)
		}
	}
	for what, c := range invalid() {
		for _, u := range []api.Term{a, x} {
			check(what, c.t, u, c.want)
			check(what, u, c.t, c.want)
		}
		check(what, c.t, c.t, c.want)
		for other, d := range invalid() {
			check(what+" before "+other, c.t, d.t, c.want)
		}
	}
}

// P3.1: a pattern may have more variables than substitutions that are valid
// bind; those that are bound ascend.
func TestMatchMany(t *testing.T) {
	x, a := many(variable, "x", 344), many(atom, "a", 344)
	for _, back := range []bool{false, true} {
		p, u := slices.Clone(x), slices.Clone(a)
		if back {
			slices.Reverse(p)
			slices.Reverse(u)
		}
		l, e := unify.Match(tree(p), tree(u))
		if e != api.OK || len(l) != len(x) || !unify.Instance(tree(u), tree(p)) {
			t.Fatalf("%d, %v", len(l), e)
		}
		for i, b := range l {
			if !same(b.Var, x[i]) || !same(b.Term, a[i]) {
				t.Errorf("%s", show(b))
			}
		}
	}
}

// refMatch returns the only substitution that can make t of a pattern, from
// what stands in t where the pattern has variables, and whether it does.
func refMatch(pattern, t api.Term) ([]api.Binding, bool) {
	var s []api.Binding
	for _, p := range term.Positions(pattern) {
		x, _ := term.At(pattern, p)
		u, e := term.At(t, p)
		bound := slices.ContainsFunc(s, func(b api.Binding) bool { return same(b.Var, x) })
		if x.Kind != api.TermVar || e != api.OK || bound {
			continue
		}
		if !subst.Fits(x, u) {
			return nil, false
		}
		s = append(s, bind(x, u))
	}
	if !same(replace(s, pattern), t) {
		return nil, false
	}
	return byVariable(slices.DeleteFunc(s, func(b api.Binding) bool { return same(b.Var, b.Term) })), true
}

// P3.1: Match and Instance do what the definition says.
func TestMatchByDefinition(t *testing.T) {
	r := rand.New(rand.NewPCG(5, 6))
	seen := map[api.Errno]int{}
	for range 30000 {
		p := few.random(r, 4)
		u := replace(few.bindings(r, []api.Term{p}, 2), p)
		if r.IntN(3) == 0 {
			u = few.near(r, u)
		}
		l, e := unify.Match(p, u)
		want, ok := refMatch(p, u)
		if (e == api.OK) != ok || !ok && e != api.ErrClash || !sameBindings(l, want) || unify.Instance(u, p) != ok {
			t.Fatalf("%s, %s: %s, %v, not %s", show(p), show(u), show(l), e, show(want))
		}
		if v, f := subst.Apply(l, p); ok && (f != api.OK || !same(v, u)) {
			t.Fatalf("%s, %s: %s makes %s of it", show(p), show(u), show(l), show(v))
		}
		seen[e]++
	}
	checkSeen(t, seen, 1000, api.OK, api.ErrClash)
}

// P3.1: equal arguments give equal results that share no memory with one
// another, within themselves, or with the arguments, which do not change.
func TestMatchSharesNothing(t *testing.T) {
	p, u := must(t, "f(?x, ?y, h(?x))"), must(t, "f(g(h(a:any)), g(h(a:any)), h(g(h(a:any))))")
	p.Kids[0].Kids = make([]api.Term, 0, 1)
	before := show(p) + show(u)
	l, e := unify.Match(p, u)
	m, f := unify.Match(p, u)
	if e != api.OK || f != api.OK || !sameBindings(l, m) || len(l) != 2 {
		t.Errorf("%s, %v, %s, %v", show(l), e, show(m), f)
	}
	apart(t, "Match", slices.Concat(sides(l), sides(m), []api.Term{p, u})...)
	if show(p)+show(u) != before {
		t.Errorf("changed: %s, %s", show(p), show(u))
	}
}
