package rewrite_test

import (
	"math/rand/v2"
	"testing"

	"sealring/api"
	"sealring/rewrite"
	"sealring/subst"
)

// P5.2: what Normal returns is in normal form, and Check accepts its trace.
func TestNormalFormsAreNormal(t *testing.T) {
	r := rand.New(rand.NewPCG(9, 10))
	found := 0
	for range 20000 {
		l := few.rules(r, 4)
		x := few.redexful(r, l, 4)
		u, trace, e := rewrite.Normal(l, x, 30)
		if e != api.OK {
			continue
		}
		if !rewrite.IsNormal(l, u) || !rewrite.Check(l, x, trace, u) || len(rewrite.Redexes(l, u)) != 0 {
			t.Fatalf("%s, %s: %s, %v", showRules(l), text(x), text(u), trace)
		}
		if rewrite.IsNormal(l, x) != (len(trace) == 0) || rewrite.IsNormal(l, x) && !same(x, u) {
			t.Fatalf("%s, %s: %s, %v, but normal before", showRules(l), text(x), text(u), trace)
		}
		if len(trace) > 0 {
			found++
		}
	}
	if found < 1000 {
		t.Errorf("%d cases only", found)
	}
}

// P5.2: CheckJoin accepts what Joins returns.
func TestJoinsAreAccepted(t *testing.T) {
	r := rand.New(rand.NewPCG(11, 12))
	found := 0
	for range 20000 {
		l := few.rules(r, 4)
		x := few.redexful(r, l, 3)
		y := x
		for range r.IntN(3) {
			if all := rewrite.Redexes(l, y); len(all) > 0 {
				y, _ = rewrite.Apply(l, y, pick(r, all))
			}
		}
		j, e := rewrite.Joins(l, x, y, 30)
		if e != api.OK {
			continue
		}
		if !rewrite.CheckJoin(l, x, y, j) || !rewrite.IsNormal(l, j.Term) {
			t.Fatalf("%s, %s, %s: %v", showRules(l), text(x), text(y), j)
		}
		if !same(x, y) {
			found++
		}
	}
	if found < 1000 {
		t.Errorf("%d cases only", found)
	}
}

// P5.2: a redex of a term is, at the same position, one of each instance of
// the term by a substitution, and leads to the instance of the result.
func TestInstancesKeepRedexes(t *testing.T) {
	r := rand.New(rand.NewPCG(13, 14))
	found := 0
	for range 20000 {
		l := few.rules(r, 4)
		x := few.redexful(r, l, 4)
		s := few.bindings(r, x, 2)
		y, e := subst.Apply(s, x)
		if e != api.OK {
			t.Fatalf("%s, %v: %v", text(x), s, e)
		}
		for _, redex := range rewrite.Redexes(l, x) {
			u, e := rewrite.Apply(l, x, redex)
			v, f := rewrite.Apply(l, y, redex)
			w, g := subst.Apply(s, u)
			if e != api.OK || f != api.OK || g != api.OK || !same(v, w) {
				t.Fatalf("%s, %s, %v, %v: %s, %v, %s, %v, %s, %v", showRules(l), text(x), s, redex, text(u), e, text(v), f, text(w), g)
			}
			if len(s) > 0 {
				found++
			}
		}
	}
	if found < 1000 {
		t.Errorf("%d cases only", found)
	}
}

// P5.2: a valid term has a redex exactly if it is not in normal form, and one
// that can be applied as long as the result is valid.
func TestRedexOrNormal(t *testing.T) {
	r := rand.New(rand.NewPCG(15, 16))
	normal := 0
	for range 20000 {
		l := few.rules(r, 4)
		x := few.redexful(r, l, 4)
		all := rewrite.Redexes(l, x)
		if rewrite.IsNormal(l, x) != (len(all) == 0) {
			t.Fatalf("%s, %s: %v", showRules(l), text(x), all)
		}
		for _, redex := range all {
			if u, e := rewrite.Apply(l, x, redex); e != api.OK || !rewrite.Check(l, x, []api.Redex{redex}, u) {
				t.Fatalf("%s, %s, %v: %s, %v", showRules(l), text(x), redex, text(u), e)
			}
		}
		if len(all) == 0 {
			normal++
		}
	}
	if normal < 1000 || normal > 19000 {
		t.Errorf("%d normal forms", normal)
	}
}
