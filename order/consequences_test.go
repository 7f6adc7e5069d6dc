package order_test

import (
	"math/rand/v2"
	"slices"
	"testing"

	"sealring/api"
	"sealring/order"
	"sealring/term"
)

// An instance is an order to be tested, with terms for it.
type instance struct {
	name          string
	compare       func(a, b api.Term) int
	terms, ground pool
}

// anOrder returns one of the two orders.
func anOrder(t *testing.T, r *rand.Rand) instance {
	l := slices.Clone(letters)
	if r.IntN(2) == 0 {
		r.Shuffle(len(l), func(i, k int) { l[i], l[k] = l[k], l[i] })
		compare := func(a, b api.Term) int { return okay(t, a, b)(order.Lpo(l, a, b)) }
		return instance{"path order " + show(l), compare, plain, ground}
	}
	w := weights(r)
	compare := func(a, b api.Term) int { return okay(t, a, b)(order.Kbo(l, w, a, b)) }
	return instance{"weighted order " + show(w), compare, poolFor(w, true), poolFor(w, false)}
}

// okay returns a function that returns a result if there is no error.
func okay(t *testing.T, a, b api.Term) func(int, api.Errno) int {
	return func(n int, e api.Errno) int {
		t.Helper()
		if e != api.OK {
			t.Fatalf("%s, %s: %v", show(a), show(b), e)
		}
		return n
	}
}

// P4.2: the orders are transitive.
func TestTransitive(t *testing.T) {
	r := rand.New(rand.NewPCG(15, 16))
	found := 0
	for range 60000 {
		o := anOrder(t, r)
		b := o.terms.random(r, 4)
		a, c := o.terms.near(r, b), o.terms.near(r, b)
		if o.compare(a, b) == 1 && o.compare(b, c) == 1 {
			found++
			if n := o.compare(a, c); n != 1 {
				t.Fatalf("%s: %s, %s, %s: %d", o.name, show(a), show(b), show(c), n)
			}
		}
	}
	if found < 1000 {
		t.Errorf("%d cases only", found)
	}
}

// P4.2: no term is greater than itself, and results are opposite if the terms
// are exchanged.
func TestStrict(t *testing.T) {
	r := rand.New(rand.NewPCG(17, 18))
	for range 20000 {
		o := anOrder(t, r)
		a := o.terms.random(r, 4)
		b := o.terms.near(r, a)
		if n := o.compare(a, a); n != 0 {
			t.Fatalf("%s: %s: %d", o.name, show(a), n)
		}
		m, n := o.compare(a, b), o.compare(b, a)
		if m != n && m != -n || m == n && m != 0 && m != 2 || (m == 0) != same(a, b) {
			t.Fatalf("%s: %s, %s: %d, %d", o.name, show(a), show(b), m, n)
		}
	}
}

// P4.2: a term is greater than its proper subterms.
func TestSubtermsAreLess(t *testing.T) {
	r := rand.New(rand.NewPCG(19, 20))
	for range 5000 {
		o := anOrder(t, r)
		a := o.terms.random(r, 5)
		for _, p := range term.Positions(a)[1:] {
			b, _ := term.At(a, p)
			if m, n := o.compare(a, b), o.compare(b, a); m != 1 || n != -1 {
				t.Fatalf("%s: %s, %s: %d, %d", o.name, show(a), show(b), m, n)
			}
		}
	}
}

// P4.2: a greater term remains so if a variable is replaced in both.
func TestReplacedVariables(t *testing.T) {
	r := rand.New(rand.NewPCG(21, 22))
	found := 0
	for range 40000 {
		o := anOrder(t, r)
		a := o.terms.random(r, 4)
		b := o.terms.near(r, a)
		vars := term.Vars(a)
		if o.compare(a, b) != 1 || len(vars) == 0 {
			continue
		}
		x := pick(r, vars)
		by := o.terms.random(r, 3)
		u, v := replace(x, by, a), replace(x, by, b)
		if term.Valid(u) != api.OK || term.Valid(v) != api.OK {
			continue
		}
		found++
		if n := o.compare(u, v); n != 1 {
			t.Fatalf("%s: %s, %s, but %s, %s: %d", o.name, show(a), show(b), show(u), show(v), n)
		}
	}
	if found < 1000 {
		t.Errorf("%d cases only", found)
	}
}

// P4.2: a greater term remains so at a place of a third term.
func TestPlaces(t *testing.T) {
	r := rand.New(rand.NewPCG(23, 24))
	found := 0
	for range 30000 {
		o := anOrder(t, r)
		a := o.terms.random(r, 3)
		b := o.terms.near(r, a)
		if o.compare(a, b) != 1 {
			continue
		}
		c := o.terms.random(r, 4)
		p := pick(r, term.Positions(c))
		u, _ := term.Replace(c, p, a)
		v, _ := term.Replace(c, p, b)
		found++
		if n := o.compare(u, v); n != 1 {
			t.Fatalf("%s: %s, %s, but %s, %s: %d", o.name, show(a), show(b), show(u), show(v), n)
		}
	}
	if found < 1000 {
		t.Errorf("%d cases only", found)
	}
}

// P4.2: of two different terms without variables, one is greater.
func TestTotalWithoutVariables(t *testing.T) {
	r := rand.New(rand.NewPCG(25, 26))
	for range 30000 {
		o := anOrder(t, r)
		a := o.ground.random(r, 5)
		b := o.ground.near(r, a)
		if n := o.compare(a, b); n == 2 || (n == 0) != same(a, b) {
			t.Fatalf("%s: %s, %s: %d", o.name, show(a), show(b), n)
		}
	}
}
