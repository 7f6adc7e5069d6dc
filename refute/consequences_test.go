package refute_test

import (
	"math/rand/v2"
	"slices"
	"testing"

	"sealring/api"
	"sealring/knowledge"
	"sealring/proof"
	"sealring/refute"
)

// P12.2: a term has a refusal that is right exactly if it is not derivable: what
// Build returns is accepted, and no refusal of a derivable term is.
func TestRefusedOrDerivable(t *testing.T) {
	r := rand.New(rand.NewPCG(11, 11))
	var found [2]int
	for i := range 4000 {
		q := randomQuestion(r, i%len(kinds))
		is, e := knowledge.Derivable(q.k, q.t)
		if e != api.OK {
			t.Fatal(e)
		}
		c, e := refute.Build(q.k, q.t)
		if is != (e == api.ErrExists) || !is != (e == api.OK) || refute.Check(q.k, q.t, c) == is {
			t.Fatalf("%s; %s: derivable: %v, but %v\n%s", texts(q.k), text(q.t), is, e, lines(c))
		}
		if l, e := proof.Build(q.k, q.t); (e == api.OK) != is || proof.Check(q.k, l, q.t) != is {
			t.Fatalf("%s; %s: derivable: %v, but %v", texts(q.k), text(q.t), is, e)
		}
		if !is {
			found[0]++
			continue
		}
		universe, _ := knowledge.Universe(q.k, q.t)
		for range 4 {
			if c := attempt(randomKnown(r, q, universe), universe); refute.Check(q.k, q.t, c) {
				t.Fatalf("%s; %s\n%s", texts(q.k), text(q.t), lines(c))
			}
			found[1]++
		}
	}
	if found[0] < 1000 || found[1] < 2000 {
		t.Errorf("%v cases only", found)
	}
}

// P12.2: a refusal refuses all its missing terms, and no known ones.
func TestRefusalOfAllMissingTerms(t *testing.T) {
	r := rand.New(rand.NewPCG(12, 12))
	for i := range 2000 {
		q := randomOpen(r, i%len(kinds))
		universe, _ := knowledge.Universe(q.k, q.t)
		c := built(q)
		for _, u := range universe {
			smaller, e := knowledge.Universe(q.k, u)
			if e != api.OK || !sameTerms(smaller, universe) {
				continue
			}
			if refute.Check(q.k, u, c) == has(c.Known, u) {
				t.Fatalf("%s; %s instead of %s\n%s", texts(q.k), text(u), text(q.t), lines(c))
			}
		}
	}
}

// P12.2: if one step leads to no missing term, Closed finds none, neither for
// what is known nor for another set; otherwise it finds one.
func TestClosedFindsMissingTerms(t *testing.T) {
	r := rand.New(rand.NewPCG(13, 13))
	var found [2]int
	for i := range 4000 {
		q := randomOpen(r, i%len(kinds))
		universe, _ := knowledge.Universe(q.k, q.t)
		if u, closed := refute.Closed(built(q).Known, universe); !closed || !isZero(u) {
			t.Fatalf("%s; %s: %s", texts(q.k), text(q.t), text(u))
		}
		s := randomKnown(r, q, universe)
		open := slices.ContainsFunc(without(universe, s), func(u api.Term) bool {
			is, e := refute.Step(s, u)
			return is || e != api.OK
		})
		u, closed := refute.Closed(s, universe)
		if closed == open || closed != isZero(u) || open && (has(s, u) || !has(universe, u)) {
			t.Fatalf("%s; %s: %s, %v", texts(s), texts(universe), text(u), closed)
		}
		if closed {
			found[0]++
		} else {
			found[1]++
		}
	}
	if found[0] < 1000 || found[1] < 500 {
		t.Errorf("%v cases only", found)
	}
}

// P12.2: what Blocked returns opens more: with it, more than itself is known.
func TestBlockedTermsOpenMore(t *testing.T) {
	r := rand.New(rand.NewPCG(14, 14))
	found := 0
	for i := range 1000 {
		q := randomOpen(r, i%len(kinds))
		universe, _ := knowledge.Universe(q.k, q.t)
		known := refKnown(q.k, universe)
		blocked, e := refute.Blocked(q.k, q.t)
		if e != api.OK {
			t.Fatal(e)
		}
		for _, u := range without(universe, known) {
			more := refKnown(append(slices.Clone(known), u), universe)
			if has(blocked, u) != (len(more) > len(known)+1) {
				t.Fatalf("%s; %s: %s", texts(q.k), text(q.t), text(u))
			}
			found++
		}
	}
	if found < 1000 {
		t.Errorf("%d terms only", found)
	}
}
