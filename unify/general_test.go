package unify_test

import (
	"fmt"
	"math/rand/v2"
	"slices"
	"testing"

	"sealring/api"
	"sealring/term"
	"sealring/unify"
)

// P3.1: the generalization of two terms.
func TestGeneral(t *testing.T) {
	for _, c := range []struct{ t, u, want string }{
		// equal terms
		{"?x", "?x", "?x"},
		{"a:nonce", "a:nonce", "a:nonce"},
		{"f(?x, g(a:any), ?g0)", "f(?x, g(a:any), ?g0)", "f(?x, g(a:any), ?g0)"},

		// different terms, with their sorts
		{"a:any", "b:any", "?g0"},
		{"a:nonce", "b:nonce", "?g0:nonce"},
		{"?x:key", "a:key", "?g0:key"},
		{"?x:key", "?y:key", "?g0:key"},
		{"a:tag", "a:data", "?g0"},
		{"a:any", "a:data", "?g0"},
		{"?x", "a:agent", "?g0"},
		{"?x:agent", "a:any", "?g0"},
		{"a:any", "a()", "?g0"},
		{"?a", "a:any", "?g0"},
		{"f()", "g()", "?g0"},
		{"f(a:any)", "f(a:any, a:any)", "?g0"},
		{"f(a:any)", "g(a:any)", "?g0"},
		{"f(a:key)", "a:key", "?g0"},

		// the same pairs have the same variables, also where they are parts
		{"f(a:nonce, b:any, a:nonce)", "f(c:nonce, g(), c:nonce)", "f(?g0:nonce, ?g1, ?g0:nonce)"},
		{"f(a:any, b:any)", "f(b:any, a:any)", "f(?g0, ?g1)"},
		{"f(a:any, a:any)", "f(b:any, c:any)", "f(?g0, ?g1)"},
		{"f(a:any, b:any)", "f(c:any, c:any)", "f(?g0, ?g1)"},
		{"f(a:any, a:key)", "f(b:any, b:key)", "f(?g0, ?g1:key)"},
		{"f(a:any, ?a)", "f(b:any, b:any)", "f(?g0, ?g1)"},
		{"f(a:any, a())", "f(b:any, b:any)", "f(?g0, ?g1)"},
		{"f(g(a:any), a:any, g(a:any))", "f(g(b:any), b:any, g(b:any))", "f(g(?g0), ?g0, g(?g0))"},
		{"f(g(a:any), h(), g(a:any))", "f(h(), g(a:any), h())", "f(?g0, ?g1, ?g0)"},
		{"f(g(h(), a:any), b:any, c:any)", "f(g(h(), k()), c:any, b:any)", "f(g(h(), ?g0), ?g1, ?g2)"},

		// names of variables that occur are left out
		{"f(?g0, a:any)", "f(?g0, b:any)", "f(?g0, ?g1)"},
		{"f(?g0, a:any)", "f(c:any, b:any)", "f(?g1, ?g2)"},
		{"f(c:any, a:any)", "f(?g0, b:any)", "f(?g1, ?g2)"},
		{"f(?g1, a:any, b:any)", "f(c:any, c:any, c:any)", "f(?g0, ?g2, ?g3)"},
		{"f(?g0:key, a:any)", "f(?g0:key, b:any)", "f(?g0:key, ?g1)"},
		{"f(a:any, h(?g0, ?g1))", "f(b:any, ?g2:tag)", "f(?g3, ?g4)"},
		{"f(?g00, ?G0, a:any)", "f(?g00, ?G0, b:any)", "f(?g00, ?G0, ?g0)"},
		{"f(g0:any, g0(), a:any)", "f(g0:any, g0(), b:any)", "f(g0:any, g0(), ?g0)"},
		{"f(g0:any)", "f(g1:any)", "f(?g0)"},
	} {
		g, e := unify.General(must(t, c.t), must(t, c.u))
		if e != api.OK || !same(g, must(t, c.want)) {
			t.Errorf("%s, %s: %s, %v", c.t, c.u, show(g), e)
		}
	}
}

// P3.1: the errors of General, the first term first.
func TestGeneralErrors(t *testing.T) {
	a := atom("a", api.SortAny)
	check := func(what string, u, v api.Term, want api.Errno) {
		t.Helper()
		if g, e := unify.General(u, v); e != want || !same(g, api.Term{}) {
			t.Errorf("%s: %s, %v, not %v", what, show(g), e, want)
		}
	}
	for what, c := range invalid() {
		check(what, c.t, a, c.want)
		check(what, a, c.t, c.want)
		check(what, c.t, c.t, c.want)
		for other, d := range invalid() {
			check(what+" before "+other, c.t, d.t, c.want)
		}
	}
}

// refGeneral generalizes by the definition; pairs are those that have a
// variable already, and names those that are left out.
func refGeneral(t, u api.Term, pairs *[]refPair, names []string) api.Term {
	if same(t, u) {
		return t
	}
	if t.Kind == api.TermApp && u.Kind == api.TermApp && t.Name == u.Name && len(t.Kids) == len(u.Kids) {
		var kids []api.Term
		for i := range t.Kids {
			kids = append(kids, refGeneral(t.Kids[i], u.Kids[i], pairs, names))
		}
		return app(t.Name, kids...)
	}
	n := slices.IndexFunc(*pairs, func(p refPair) bool { return same(p.a, t) && same(p.b, u) })
	if n < 0 {
		n = len(*pairs)
		*pairs = append(*pairs, refPair{t, u})
	}
	var free []string
	for i := range n + len(names) + 1 {
		if name := fmt.Sprintf("g%d", i); !slices.Contains(names, name) {
			free = append(free, name)
		}
	}
	if t.Sort == u.Sort {
		return variable(free[n], t.Sort)
	}
	return variable(free[n], api.SortAny)
}

// P3.1: General does what the definition says.
func TestGeneralByDefinition(t *testing.T) {
	r := rand.New(rand.NewPCG(13, 14))
	p := pool{[]string{"g0", "g1", "g3", "a"}, []int{api.SortAny, api.SortNonce, api.SortKey}}
	for range 20000 {
		u := p.random(r, 5)
		v := p.near(r, u)
		var names []string
		for _, x := range term.Vars(app("f", u, v)) {
			names = append(names, x.Name)
		}
		want := refGeneral(u, v, &[]refPair{}, names)
		if g, e := unify.General(u, v); e != api.OK || !same(g, want) {
			t.Fatalf("%s, %s: %s, %v, not %s", show(u), show(v), show(g), e, show(want))
		}
	}
}

// P3.1: General has a result for terms as large as can be.
func TestGeneralLimits(t *testing.T) {
	l, m := many(atom, "a", 344), many(atom, "b", 344)
	var want []api.Term
	for i := range l {
		want = append(want, variable(fmt.Sprintf("g%d", i), api.SortAny))
	}
	if g, e := unify.General(tree(l), tree(m)); e != api.OK || !same(g, tree(want)) {
		t.Errorf("344 pairs: %v", e)
	}
	x, y := tower(40, l[0]), tower(40, m[0])
	if g, e := unify.General(x, y); e != api.OK || !same(g, tower(40, want[0])) {
		t.Errorf("40 levels: %v", e)
	}
}

// P3.1: equal arguments give equal results that share no memory with one
// another, within themselves, or with the arguments, which do not change.
func TestGeneralSharesNothing(t *testing.T) {
	u, v := must(t, "f(g(a:any, h(b:any)), h(c:any), ?x)"), must(t, "f(g(c:any, h(b:any)), h(c:any), ?y)")
	u.Kids[2].Kids, v.Kids[2].Kids = make([]api.Term, 0, 1), make([]api.Term, 0, 1)
	before := show(u) + show(v)
	g, e := unify.General(u, v)
	h, f := unify.General(u, v)
	i, k := unify.General(u, u)
	if e != api.OK || f != api.OK || k != api.OK || !same(g, h) || !same(i, u) {
		t.Errorf("%s, %s, %s", show(g), show(h), show(i))
	}
	apart(t, "General", u, v, g, h, i)
	if show(u)+show(v) != before {
		t.Errorf("changed: %s, %s", show(u), show(v))
	}
}
