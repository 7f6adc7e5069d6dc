package knowledge_test

import (
	"math/rand/v2"
	"slices"
	"testing"
	"time"

	"sealring/api"
	"sealring/knowledge"
	"sealring/theory"
)

// known returns what is known of a universe.
func known(t *testing.T, k, universe []api.Term) []api.Term {
	t.Helper()
	l, e := knowledge.Known(k, universe)
	if e != api.OK {
		t.Fatalf("Known(%s; %s): %v", texts(k), texts(universe), e)
	}
	return l
}

// derivable is Derivable for terms that have no error.
func derivable(t *testing.T, k []api.Term, x api.Term) bool {
	t.Helper()
	is, e := knowledge.Derivable(k, x)
	if e != api.OK {
		t.Fatalf("Derivable(%s; %s): %v", texts(k), text(x), e)
	}
	return is
}

// P10.2: one step from what is known of a universe leads to nothing else in it,
// and what is known has the list and all public terms.
func TestKnownIsClosed(t *testing.T) {
	r := rand.New(rand.NewPCG(6, 6))
	unknown := 0
	for i := range 3000 {
		kind := kinds[i%len(kinds)]
		k := randomList(r, kind.symbols, 6, kind.depth)
		universe, e := knowledge.Universe(k, randomGoal(r, kind.symbols, k))
		if e != api.OK || !small(universe) {
			continue
		}
		l := known(t, k, universe)
		for _, x := range universe {
			if !has(l, x) && refStep(l, x) {
				t.Fatalf("%s; %s: a step leads to %s", texts(k), texts(universe), text(x))
			}
			if !has(l, x) && has(k, x) || has(l, x) && !slices.ContainsFunc(universe, func(u api.Term) bool { return same(u, x) }) {
				t.Fatalf("%s; %s: %s", texts(k), texts(universe), texts(l))
			}
			if !has(l, x) {
				unknown++
			}
		}
		if again := known(t, l[:min(60, len(l))], universe); !sameTerms(again, l) {
			t.Fatalf("%s; %s: %s, then %s", texts(k), texts(universe), texts(l), texts(again))
		}
	}
	if unknown < 3000 {
		t.Errorf("%d terms only", unknown)
	}
}

// P10.2: of free terms, what is derivable from derivable terms is derivable.
func TestDerivableIsTransitive(t *testing.T) {
	r := rand.New(rand.NewPCG(7, 7))
	found := 0
	for range 10000 {
		k := randomList(r, freely, 6, 4)
		var derived []api.Term
		for range 3 {
			if x := randomGoal(r, freely, append(slices.Clone(k), derived...)); theory.Free(x) && derivable(t, k, x) {
				derived = append(derived, x)
			}
		}
		if slices.ContainsFunc(k, func(x api.Term) bool { return !theory.Free(x) }) {
			continue
		}
		x := randomGoal(r, freely, append(slices.Clone(k), derived...))
		if theory.Free(x) && derivable(t, derived, x) && !has(derived, x) {
			found++
			if !derivable(t, k, x) {
				t.Fatalf("%s; %s; %s", texts(k), texts(derived), text(x))
			}
		}
		if theory.Free(x) && derivable(t, slices.Concat(k, derived), x) != derivable(t, k, x) {
			t.Fatalf("%s; %s; %s: both", texts(k), texts(derived), text(x))
		}
	}
	if found < 500 {
		t.Errorf("%d cases only", found)
	}
}

// P10.2: what Minimal returns has the same derivable terms in k, and no term
// of it is derivable from the others, or public.
func TestMinimalDerivesAll(t *testing.T) {
	r := rand.New(rand.NewPCG(8, 8))
	shorter := 0
	for i := range 4000 {
		kind := kinds[i%len(kinds)]
		k := randomList(r, kind.symbols, 8, kind.depth)
		l, e := knowledge.Minimal(k)
		if e != api.OK {
			continue
		}
		for _, x := range k {
			if !derivable(t, l, x) {
				t.Fatalf("%s: %s: not %s", texts(k), texts(l), text(x))
			}
		}
		for i, x := range l {
			if derivable(t, slices.Delete(slices.Clone(l), i, i+1), x) {
				t.Fatalf("%s: %s: %s is left", texts(k), texts(l), text(x))
			}
		}
		if is, e := knowledge.Same(k, l); !is || e != api.OK {
			t.Fatalf("%s: %s: %v, %v", texts(k), texts(l), is, e)
		}
		if len(l) < len(k) {
			shorter++
		}
	}
	if shorter < 1000 {
		t.Errorf("%d lists only", shorter)
	}
}

// P10.2: with more terms, no less of a universe is known.
func TestMoreTermsMoreKnown(t *testing.T) {
	r := rand.New(rand.NewPCG(9, 9))
	more := 0
	for i := range 4000 {
		kind := kinds[i%len(kinds)]
		k := randomList(r, kind.symbols, 6, kind.depth)
		universe, e := knowledge.Universe(k, randomGoal(r, kind.symbols, k))
		if e != api.OK {
			continue
		}
		l := known(t, k, universe)
		m := known(t, append(slices.Clone(k), pick(r, universe), pick(r, universe)), universe)
		if slices.ContainsFunc(l, func(x api.Term) bool { return !has(m, x) }) {
			t.Fatalf("%s; %s: %s, then %s", texts(k), texts(universe), texts(l), texts(m))
		}
		if len(m) > len(l) {
			more++
		}
	}
	if more < 1000 {
		t.Errorf("%d cases only", more)
	}
}

// P10.1: what is known does not depend on the order of the list.
func TestOrderOfTheList(t *testing.T) {
	r := rand.New(rand.NewPCG(10, 10))
	for i := range 2000 {
		kind := kinds[i%len(kinds)]
		k := randomList(r, kind.symbols, 8, kind.depth)
		mixed := slices.Clone(k)
		r.Shuffle(len(mixed), func(i, k int) { mixed[i], mixed[k] = mixed[k], mixed[i] })
		l, e := knowledge.Analyze(k)
		m, f := knowledge.Analyze(mixed)
		if e != f || !sameTerms(l, m) {
			t.Fatalf("%s: %s, %v, then %s, %v", texts(k), texts(l), e, texts(m), f)
		}
	}
}

// chained returns n terms of which each opens the next one, and what is opened
// last: a sum shows a key, the key an encrypted term.
func chained(n int) ([]api.Term, api.Term) {
	x := atoms("x", n+1)
	l := []api.Term{x[0]}
	for i := range n {
		l = append(l, app("xor", x[i], app("enc", x[i+1], x[i])))
	}
	slices.Reverse(l)
	return l, x[n]
}

// P10.1: lists at the limits are decided, in a reasonable time.
func TestLargeLists(t *testing.T) {
	begin := time.Now()
	k, last := chained(59)
	if is, e := knowledge.Derivable(k, last); !is || e != api.OK {
		t.Errorf("%v, %v", is, e)
	}
	if is, e := knowledge.Derivable(k[:59], last); is || e != api.OK {
		t.Errorf("without the first key: %v, %v", is, e)
	}
	if l, e := knowledge.Minimal(k); e != api.OK || !sameTerms(l, k) {
		t.Errorf("%s, %v", texts(l), e)
	}
	if l, e := knowledge.Opens(k[:59], last); e != api.OK || !sameTerms(l, atoms("x", 59)) {
		t.Errorf("%s, %v", texts(l), e)
	}
	// 12 exponents over each of 14 bases, of which few are known.
	f := atoms("f", 8)
	exponents := append(slices.Clone(f), app("mul", f[0], f[1]), app("mul", f[1], f[2], f[3]), app("mul", f[0], f[2], f[4], f[4]), app("mul", f[5], f[6], f[7]))
	k = slices.Clone(exponents[8:])
	universe := slices.Clone(exponents)
	for i, b := range atoms("b", 14) {
		universe = append(universe, b)
		for _, e := range exponents[:12-i%2] {
			universe = append(universe, app("exp", b, e))
		}
		k = append(k, app("exp", b, exponents[i%11]))
	}
	// The known exponents lead from one another to one another, and to the base,
	// of which there are 3; and from the other 11 powers to nothing.
	if l, e := knowledge.Known(k, universe); e != api.OK || len(l) != 4+11+5+4+5 {
		t.Errorf("%d, %v", len(l), e)
	}
	if l, e := knowledge.Known(append(k, f...), universe); e != api.OK || len(l) != len(universe) {
		t.Errorf("%d of %d, %v", len(l), len(universe), e)
	}
	if s := time.Since(begin); s > 20*time.Second {
		t.Errorf("%v", s)
	}
}
