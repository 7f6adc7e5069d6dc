package subst_test

import (
	"math/rand/v2"
	"slices"
	"testing"

	"sealring/api"
	"sealring/subst"
	"sealring/term"
)

// P2.1: Apply replaces all occurrences of the variables at once.
func TestApply(t *testing.T) {
	for _, c := range []struct {
		s       []api.Binding
		t, want string
	}{
		{binds(t, "?x", "f(?y, a:any)"), "g(?x)", "g(f(?y, a:any))"},
		{binds(t, "?x", "f(?y, a:any)"), "?x", "f(?y, a:any)"},
		{binds(t, "?x", "f(?x)"), "h(?x, g(?x), ?x)", "h(f(?x), g(f(?x)), f(?x))"},
		{binds(t, "?x", "?y", "?y", "?x"), "f(?x, g(?y))", "f(?y, g(?x))"},
		{binds(t, "?x", "?y", "?y", "?z", "?z", "a:any"), "f(?x, ?y, ?z)", "f(?y, ?z, a:any)"},
		{binds(t, "?x", "a:any"), "f(?x, ?x:nonce, ?x:key)", "f(a:any, ?x:nonce, ?x:key)"},
		{binds(t, "?x:nonce", "a:nonce"), "f(?x, ?x:nonce, ?x:key)", "f(?x, a:nonce, ?x:key)"},
		{binds(t, "?x", "a:any"), "f(x:any, x(), ?y, ?x#0, ?X)", "f(x:any, x(), ?y, ?x#0, ?X)"},
		{binds(t, "?x", "a:any"), "x(?x)", "x(a:any)"},
		{nil, "f(?x, a:any)", "f(?x, a:any)"},
		{binds(t, "?x", "a:any"), "f()", "f()"},
		{binds(t, "?x", "a:any"), "b:tag", "b:tag"},
	} {
		u, e := subst.Apply(c.s, must(t, c.t))
		if e != api.OK || !same(u, must(t, c.want)) {
			t.Errorf("%s, %s: %s, %v", show(c.s), c.t, show(u), e)
		}
	}
}

// P2.1: Apply finds the terms of all the variables that may be bound at once.
func TestApplyMany(t *testing.T) {
	var s []api.Binding
	for _, name := range names("x", 200) {
		s = append(s, bind(variable(name, api.SortAny), atom(name, api.SortTag)))
	}
	for _, b := range s {
		if u, e := subst.Apply(s, app("f", b.Var, b.Var)); e != api.OK || !same(u, app("f", b.Term, b.Term)) {
			t.Errorf("%s: %s, %v", show(b.Var), show(u), e)
		}
	}
	for _, name := range []string{"a", "x", "x0000a", "x0200", "z"} {
		if u, e := subst.Apply(s, variable(name, api.SortAny)); e != api.OK || !same(u, variable(name, api.SortAny)) {
			t.Errorf("%s: %s, %v", name, show(u), e)
		}
	}
}

// P2.1: Apply does what the definition says.
func TestApplyByDefinition(t *testing.T) {
	r := rand.New(rand.NewPCG(1, 2))
	for range 3000 {
		s, x := randomBindings(r, 5, 3), random(r, 4)
		if u, e := subst.Apply(s, x); e != api.OK || !same(u, replace(s, x)) {
			t.Fatalf("%s, %s: %s, %v", show(s), show(x), show(u), e)
		}
	}
}

// P2.1: the errors of Apply, first those of the substitution, then those of the
// term, then that of the result.
func TestApplyErrors(t *testing.T) {
	x, y, a := variable("x", api.SortAny), variable("y", api.SortAny), atom("a", api.SortAny)
	check := func(what string, s []api.Binding, u api.Term, want api.Errno) {
		t.Helper()
		if v, e := subst.Apply(s, u); e != want || !same(v, api.Term{}) {
			t.Errorf("%s: %s, %v, not %v", what, show(v), e, want)
		}
	}
	for what, c := range wrong(t) {
		check(what, c.s, a, c.want)
		check(what+", and the term is wrong", c.s, api.Term{}, c.want)
		check(what+", and the term has no name", c.s, app(""), c.want)
	}
	for what, c := range invalid() {
		check(what, nil, c.t, c.want)
		check(what, []api.Binding{bind(y, a)}, c.t, c.want)
	}
	check("41 levels", []api.Binding{bind(x, app("g", a))}, tower(40, x), api.ErrTooLarge)
	check("41 levels", []api.Binding{bind(x, tower(21, a))}, app("f", a, tower(20, app("g", x))), api.ErrTooLarge)
	check("many nodes", []api.Binding{bind(x, leaves(344, a))}, leaves(344, x), api.ErrTooLarge)
}

// P2.1: Apply has a result up to the limits, and none beyond them.
func TestApplyLimits(t *testing.T) {
	x, y, a := variable("x", api.SortAny), variable("y", api.SortAny), atom("a", api.SortAny)
	check := func(s []api.Binding, u api.Term) {
		t.Helper()
		want := replace(s, u)
		within := term.Size(want) <= api.MaxNodes && term.Depth(want) <= api.MaxDepth
		v, e := subst.Apply(s, u)
		if within && (e != api.OK || !same(v, want)) || !within && (e != api.ErrTooLarge || !same(v, api.Term{})) {
			t.Errorf("%d nodes, %d levels: %v", term.Size(want), term.Depth(want), e)
		}
	}
	for n := range 6 {
		check([]api.Binding{bind(x, tower(18+n, a))}, tower(20, x))
		check([]api.Binding{bind(x, tower(18+n, a))}, app("f", a, tower(19, x)))
		check([]api.Binding{bind(x, a)}, tower(35+n, x))
		// From 397 nodes on: f, 394 of the leaves, h, and those below.
		check([]api.Binding{bind(x, a), bind(y, app("h", slices.Repeat([]api.Term{a}, n+1)...))}, app("f", leaves(344, x), y))
		check([]api.Binding{bind(x, app("h", a, a))}, app("f", leaves(120+2*n, x)))
	}
}

// P2.1: All applies a substitution to each term, in order.
func TestAll(t *testing.T) {
	s := binds(t, "?x", "f(?y)", "?y", "a:any")
	l, e := subst.All(s, mustAll(t, "?x", "g(?y, ?x)", "?z", "?x"))
	if e != api.OK || !sameList(l, mustAll(t, "f(?y)", "g(a:any, f(?y))", "?z", "f(?y)")) {
		t.Errorf("%s, %v", show(l), e)
	}
	for _, empty := range [][]api.Term{nil, {}} {
		if l, e := subst.All(s, empty); len(l) != 0 || e != api.OK {
			t.Errorf("nothing: %s, %v", show(l), e)
		}
	}
	full := make([]api.Term, 200)
	for i := range full {
		full[i] = s[i%2].Var
	}
	l, e = subst.All(s, full)
	if e != api.OK || len(l) != 200 {
		t.Fatalf("200 terms: %d, %v", len(l), e)
	}
	for i := range l {
		if !same(l[i], s[i%2].Term) {
			t.Errorf("number %d: %s", i, show(l[i]))
		}
	}
}

// P2.1: the errors of All, in order.
func TestAllErrors(t *testing.T) {
	x, a := variable("x", api.SortAny), atom("a", api.SortAny)
	good := []api.Binding{bind(x, app("g", a))}
	check := func(what string, s []api.Binding, l []api.Term, want api.Errno) {
		t.Helper()
		if v, e := subst.All(s, l); e != want || len(v) != 0 {
			t.Errorf("%s: %s, %v, not %v", what, show(v), e, want)
		}
	}
	for what, c := range wrong(t) {
		check(what, c.s, []api.Term{a}, c.want)
		check(what+", no terms", c.s, nil, c.want)
		check(what+", 201 terms", c.s, make([]api.Term, 201), c.want)
		check(what+", wrong terms", c.s, []api.Term{app(""), {}}, c.want)
	}
	for what, c := range invalid() {
		check(what, good, []api.Term{a, c.t, a}, c.want)
	}
	check("201 terms", nil, make([]api.Term, 201), api.ErrTooLarge)
	check("201 terms", good, append(make([]api.Term, 200), app("")), api.ErrTooLarge)
	check("200 wrong terms", good, make([]api.Term, 200), api.ErrInvalid)
	check("a result first", good, []api.Term{x, tower(40, x), {}}, api.ErrTooLarge)
	check("a term first", good, []api.Term{x, app(""), tower(40, x)}, api.ErrSyntax)
}

// P2.1: equal arguments give equal results that share no memory with one
// another, within themselves, or with the arguments, which do not change.
func TestApplySharesNothing(t *testing.T) {
	s := binds(t, "?x", "f(?y, g(a:any))", "?z", "h(h(?x))")
	x := must(t, "k(?x, k(?x, ?z), ?z, g(b:any))")
	before := show(s) + show(x)
	u, e := subst.Apply(s, x)
	v, f := subst.Apply(s, x)
	l, g := subst.All(s, []api.Term{x, x, s[0].Var, s[0].Var})
	if e != api.OK || f != api.OK || g != api.OK || !same(u, v) || !same(l[0], u) || !same(l[1], u) {
		t.Errorf("%s, %s, %s", show(u), show(v), show(l))
	}
	apart(t, "Apply and All", append(append(sides(s), x, u, v), l...)...)
	if show(s)+show(x) != before {
		t.Errorf("changed: %s, %s", show(s), show(x))
	}
}

// P2.1: memory behind empty lists of kids is not shared either.
func TestEmptyKidsShareNothing(t *testing.T) {
	room := func(t api.Term) api.Term {
		t.Kids = make([]api.Term, 0, 1)
		return t
	}
	x, y := room(variable("x", api.SortAny)), room(variable("y", api.SortAny))
	s, u := []api.Binding{bind(x, room(app("f")))}, []api.Binding{bind(y, room(atom("a", api.SortAny)))}
	v, e := subst.Apply(s, app("g", x, y, room(app("h"))))
	w, f := subst.Compose(s, u)
	z, g := subst.Rename(app("g", x, room(app("h"))), "")
	if e != api.OK || f != api.OK || g != api.OK {
		t.Errorf("%v, %v, %v", e, f, g)
	}
	l := append(sides(s), v, z)
	l = append(append(l, sides(u)...), sides(w)...)
	l = append(l, sides(subst.Restrict(s, []api.Term{x}))...)
	apart(t, "empty lists", l...)
}
