package unify_test

import (
	"math/rand/v2"
	"testing"

	"sealring/api"
	"sealring/subst"
	"sealring/term"
	"sealring/unify"
)

// P3.2: a unifier makes the terms equal.
func TestUnifierMakesEqual(t *testing.T) {
	r := rand.New(rand.NewPCG(15, 16))
	for range 20000 {
		u := few.random(r, 4)
		v := few.near(r, u)
		s, e := unify.Unify(u, v)
		if e != api.OK {
			continue
		}
		x, f := subst.Apply(s, u)
		y, g := subst.Apply(s, v)
		if f != api.OK || g != api.OK || !same(x, y) || !subst.Idempotent(s) {
			t.Fatalf("%s, %s, %s: %s, %s", show(u), show(v), show(s), show(x), show(y))
		}
	}
}

// P3.2: every substitution that makes two terms equal is an instance of their
// unifier: what it makes of their variables is what another substitution makes
// of what the unifier makes of them.
func TestUnifierIsMostGeneral(t *testing.T) {
	r := rand.New(rand.NewPCG(17, 18))
	found := 0
	for range 60000 {
		u := few.random(r, 4)
		v := few.near(r, u)
		x := term.Vars(app("f", u, v))
		by := few.bindings(r, x, 2)
		if !same(replace(by, u), replace(by, v)) || len(x) > api.MaxKids {
			continue
		}
		found++
		s, e := unify.Unify(u, v)
		left, right := app("f", replaceAll(s, x)...), app("f", replaceAll(by, x)...)
		if e != api.OK || !unify.Instance(right, left) {
			t.Fatalf("%s, %s: %s, %v, but %s", show(u), show(v), show(s), e, show(by))
		}
	}
	if found < 1000 {
		t.Errorf("%d cases only", found)
	}
}

// P3.2: a term unifies with each of its instances if no variable occurs in
// both, and is disjoint from none of them.
func TestUnifyWithInstance(t *testing.T) {
	r := rand.New(rand.NewPCG(19, 20))
	for range 20000 {
		u := few.random(r, 4)
		v := suffixed(replace(few.bindings(r, []api.Term{u}, 2), u), "#1")
		if s, e := unify.Unify(u, v); e != api.OK {
			t.Fatalf("%s, %s: %s, %v", show(u), show(v), show(s), e)
		}
		if !unify.Instance(v, u) || unify.Disjoint(u, v) || unify.Disjoint(v, u) {
			t.Fatalf("%s, %s: no instance, or disjoint", show(u), show(v))
		}
	}
}

// P3.2: a term unifies with no term that it is disjoint from, under any
// substitutions.
func TestDisjointStaysSo(t *testing.T) {
	r := rand.New(rand.NewPCG(21, 22))
	found := 0
	for range 30000 {
		u := few.random(r, 3)
		v := few.near(r, u)
		if !unify.Disjoint(u, v) {
			continue
		}
		found++
		x, y := replace(few.bindings(r, []api.Term{u}, 2), u), replace(few.bindings(r, []api.Term{v}, 2), v)
		if _, e := unify.Unify(u, v); e == api.OK {
			t.Fatalf("%s, %s: they unify", show(u), show(v))
		}
		if _, e := unify.Unify(x, y); e == api.OK {
			t.Fatalf("%s, %s: %s, %s unify", show(u), show(v), show(x), show(y))
		}
	}
	if found < 1000 {
		t.Errorf("%d cases only", found)
	}
}

// P3.2: both terms are instances of their generalization, which is an instance
// of every other term of which both are.
func TestGeneralIsLeast(t *testing.T) {
	r := rand.New(rand.NewPCG(23, 24))
	for range 20000 {
		c := few.random(r, 4)
		u, v := replace(few.bindings(r, []api.Term{c}, 3), c), replace(few.bindings(r, []api.Term{c}, 3), c)
		g, e := unify.General(u, v)
		if e != api.OK || !unify.Instance(u, g) || !unify.Instance(v, g) {
			t.Fatalf("%s, %s: %s, %v", show(u), show(v), show(g), e)
		}
		if !unify.Instance(g, c) {
			t.Fatalf("%s, %s are instances of %s, but not %s", show(u), show(v), show(c), show(g))
		}
	}
}
