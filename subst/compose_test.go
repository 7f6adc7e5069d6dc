package subst_test

import (
	"math/rand/v2"
	"slices"
	"testing"

	"sealring/api"
	"sealring/subst"
	"sealring/term"
)

// P2.1: the composition of two substitutions.
func TestCompose(t *testing.T) {
	for _, c := range []struct{ s, t, want []string }{
		{nil, nil, nil},
		{nil, []string{"?x", "a:any"}, []string{"?x", "a:any"}},
		{[]string{"?x", "a:any"}, nil, []string{"?x", "a:any"}},
		{[]string{"?x", "f(?y, a:any)"}, []string{"?y", "b:any"}, []string{"?x", "f(b:any, a:any)", "?y", "b:any"}},
		{[]string{"?x", "?y"}, []string{"?y", "?x"}, []string{"?y", "?x"}},
		{[]string{"?x", "?y", "?y", "?x"}, []string{"?x", "?y", "?y", "?x"}, nil},
		{[]string{"?x", "?y"}, []string{"?x", "a:any"}, []string{"?x", "?y"}},
		{[]string{"?x", "a:any"}, []string{"?x", "b:any"}, []string{"?x", "a:any"}},
		{[]string{"?x", "f(?x)"}, []string{"?x", "f(?x)"}, []string{"?x", "f(f(?x))"}},
		{[]string{"?y", "f(?x, ?z)"}, []string{"?x", "?z", "?z", "?x"}, []string{"?x", "?z", "?y", "f(?z, ?x)", "?z", "?x"}},
		{[]string{"?b", "?d", "?f", "?g"}, []string{"?a", "n:any", "?c", "n:any", "?g", "n:any"}, []string{"?a", "n:any", "?b", "?d", "?c", "n:any", "?f", "n:any", "?g", "n:any"}},
		{[]string{"?n:nonce", "?m:nonce"}, []string{"?m:nonce", "k:nonce"}, []string{"?m:nonce", "k:nonce", "?n:nonce", "k:nonce"}},
		{[]string{"?n:nonce", "?m:nonce"}, []string{"?m:nonce", "?n:nonce"}, []string{"?m:nonce", "?n:nonce"}},
		{[]string{"?x", "?x:nonce"}, []string{"?x:nonce", "x:nonce"}, []string{"?x", "x:nonce", "?x:nonce", "x:nonce"}},
		{[]string{"?x:nonce", "?y:nonce"}, []string{"?x", "a:any"}, []string{"?x", "a:any", "?x:nonce", "?y:nonce"}},
	} {
		l, e := subst.Compose(binds(t, c.s...), binds(t, c.t...))
		if e != api.OK || !sameBindings(l, binds(t, c.want...)) {
			t.Errorf("%v, %v: %s, %v", c.s, c.t, show(l), e)
		}
	}
}

// P2.1: the composition is what the definition says.
func TestComposeByDefinition(t *testing.T) {
	r := rand.New(rand.NewPCG(3, 4))
	for range 3000 {
		s, u := randomBindings(r, 5, 3), randomBindings(r, 5, 3)
		var want []api.Binding
		for _, b := range s {
			want = append(want, bind(b.Var, replace(u, b.Term)))
		}
		for _, b := range u {
			if !slices.ContainsFunc(s, func(c api.Binding) bool { return same(b.Var, c.Var) }) {
				want = append(want, b)
			}
		}
		want = slices.DeleteFunc(want, func(b api.Binding) bool { return same(b.Var, b.Term) })
		slices.SortFunc(want, func(a, b api.Binding) int { return term.Compare(a.Var, b.Var) })
		if l, e := subst.Compose(s, u); e != api.OK || !sameBindings(l, want) || subst.Valid(l) != api.OK {
			t.Fatalf("%s, %s: %s, %v", show(s), show(u), show(l), e)
		}
	}
}

func checkComposeError(t *testing.T, what string, s, u []api.Binding, want api.Errno) {
	t.Helper()
	if l, e := subst.Compose(s, u); e != want || len(l) != 0 {
		t.Errorf("%s: %s, %v, not %v", what, show(l), e, want)
	}
}

// P2.1: the errors of Compose, in order.
func TestComposeErrors(t *testing.T) {
	x, y, z, a := variable("x", api.SortAny), variable("y", api.SortAny), variable("z", api.SortAny), atom("a", api.SortAny)
	for what, c := range wrong(t) {
		checkComposeError(t, "first, "+what, c.s, nil, c.want)
		checkComposeError(t, "second, "+what, nil, c.s, c.want)
		checkComposeError(t, "second, "+what, []api.Binding{bind(z, tower(40, x))}, c.s, c.want)
		for other, d := range wrong(t) {
			checkComposeError(t, "first, "+what+", second, "+other, c.s, d.s, c.want)
		}
	}
	checkComposeError(t, "41 levels", []api.Binding{bind(x, a), bind(y, tower(40, z))}, []api.Binding{bind(z, app("g", a))}, api.ErrTooLarge)
	checkComposeError(t, "many nodes", []api.Binding{bind(x, leaves(344, z))}, []api.Binding{bind(z, leaves(344, a))}, api.ErrTooLarge)
}

// P2.1: Compose has a result with 200 bindings, and none with more; bindings
// with equal sides do not count.
func TestComposeLimits(t *testing.T) {
	a, y := atom("a", api.SortAny), variable("y", api.SortAny)
	for _, c := range []struct{ m, n int }{{200, 0}, {0, 200}, {100, 100}, {199, 1}} {
		l, e := subst.Compose(many("x", c.m, a), many("z", c.n, a))
		if e != api.OK || len(l) != 200 {
			t.Errorf("%d and %d: %d, %v", c.m, c.n, len(l), e)
		}
	}
	for _, c := range []struct{ m, n int }{{200, 1}, {1, 200}, {100, 101}, {200, 200}} {
		checkComposeError(t, "too many", many("x", c.m, a), many("z", c.n, a), api.ErrTooLarge)
	}
	if l, e := subst.Compose(many("x", 200, a), many("x", 200, y)); e != api.OK || !sameBindings(l, many("x", 200, a)) {
		t.Errorf("the same variables: %d, %v", len(l), e)
	}
	s := append([]api.Binding{bind(variable("a", api.SortAny), y)}, many("x", 199, a)...)
	u := []api.Binding{bind(y, variable("a", api.SortAny))}
	if l, e := subst.Compose(s, u); e != api.OK || len(l) != 200 || !same(l[199].Var, y) {
		t.Errorf("equal sides: %d, %v", len(l), e)
	}
}

// P2.2: the composition has the effect of both, one after the other.
func TestComposeEffect(t *testing.T) {
	r := rand.New(rand.NewPCG(5, 6))
	for range 3000 {
		s, u, x := randomBindings(r, 5, 3), randomBindings(r, 5, 3), random(r, 4)
		both, e := subst.Compose(s, u)
		at, f := subst.Apply(both, x)
		first, g := subst.Apply(s, x)
		second, h := subst.Apply(u, first)
		if e != api.OK || f != api.OK || g != api.OK || h != api.OK || !same(at, second) {
			t.Fatalf("%s, %s, %s: %s, not %s", show(s), show(u), show(x), show(at), show(second))
		}
	}
}

// P2.2: composition is associative.
func TestComposeAssociative(t *testing.T) {
	r := rand.New(rand.NewPCG(7, 8))
	compose := func(s, u []api.Binding) []api.Binding {
		l, e := subst.Compose(s, u)
		if e != api.OK {
			t.Fatalf("%s, %s: %v", show(s), show(u), e)
		}
		return l
	}
	for range 3000 {
		a, b, c := randomBindings(r, 4, 2), randomBindings(r, 4, 2), randomBindings(r, 4, 2)
		if l, m := compose(compose(a, b), c), compose(a, compose(b, c)); !sameBindings(l, m) {
			t.Fatalf("%s, %s, %s: %s, not %s", show(a), show(b), show(c), show(l), show(m))
		}
	}
}

// P2.1: equal arguments give equal results that share no memory with one
// another, within themselves, or with the arguments, which do not change.
func TestComposeSharesNothing(t *testing.T) {
	s := binds(t, "?x", "f(?y, ?y)", "?z", "h(h(?y))")
	u := binds(t, "?w", "k(k(?x))", "?y", "g(g(a:any))")
	before := show(s) + show(u)
	l, e := subst.Compose(s, u)
	m, f := subst.Compose(s, u)
	if e != api.OK || f != api.OK || !sameBindings(l, m) {
		t.Errorf("%s, %v, %s, %v", show(l), e, show(m), f)
	}
	apart(t, "Compose", slices.Concat(sides(s), sides(u), sides(l), sides(m))...)
	if show(s)+show(u) != before {
		t.Errorf("changed: %s, %s", show(s), show(u))
	}
}
