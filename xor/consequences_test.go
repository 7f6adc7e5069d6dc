package xor_test

import (
	"math/rand/v2"
	"slices"
	"testing"

	"sealring/api"
	"sealring/xor"
)

// P8.2: sums do not depend on the order of the terms, nor on how they are put
// together.
func TestSumIsCommutativeAndAssociative(t *testing.T) {
	r := rand.New(rand.NewPCG(9, 10))
	found := 0
	for range 10000 {
		l := randomTerms(r, 5, 3)
		x, e := xor.Sum(l)
		m := slices.Clone(l)
		r.Shuffle(len(m), func(i, k int) { m[i], m[k] = m[k], m[i] })
		y, f := xor.Sum(m)
		if e != f || !same(x, y) {
			t.Fatalf("%s: %s, %v, %s, %v", texts(l...), texts(x), e, texts(y), f)
		}
		at := r.IntN(len(l) + 1)
		a, e := xor.Sum(m[:at])
		b, f := xor.Sum(m[at:])
		if e != api.OK || f != api.OK {
			continue
		}
		// The sum of both sums, and that of a sum and the terms, may be too
		// large only if the sum of all is.
		c, e := xor.Add(a, b)
		d, f := xor.Sum(append([]api.Term{a}, m[at:]...))
		_, want := xor.Sum(l)
		if e != want || f != want || !same(c, x) || !same(d, x) {
			t.Fatalf("%s, %d: %s, %v, %s, %v", texts(m...), at, texts(c), e, texts(d), f)
		}
		found++
	}
	if found < 1000 {
		t.Errorf("%d cases only", found)
	}
}

// P8.2: a term that is added to itself is zero(), and zero() adds nothing; the
// sum of the summands is the sum of the term, and has the same summands.
func TestSumCancels(t *testing.T) {
	r := rand.New(rand.NewPCG(11, 12))
	for range 10000 {
		x := randomTerm(r, 4)
		if z, e := xor.Add(x, x); e != api.OK || !same(z, app("zero")) {
			t.Fatalf("%s: %s, %v", texts(x), texts(z), e)
		}
		parts := partsOf(t, x)
		sum, e := xor.Sum([]api.Term{x})
		again, f := xor.Sum(parts)
		other, g := xor.Add(x, app("zero"))
		if e != f || e != g || !same(sum, again) || !same(sum, other) {
			t.Fatalf("%s: %s, %v, %s, %v, %s, %v", texts(x), texts(sum), e, texts(again), f, texts(other), g)
		}
		if e == api.OK && !sameTerms(partsOf(t, sum), parts) {
			t.Fatalf("%s: %s", texts(sum), texts(parts...))
		}
	}
}

// P8.2: for each list and term, exactly one of a choice and a separation
// exists, and Check and CheckRefute accept what Span and Refute return.
func TestEitherChoiceOrSeparation(t *testing.T) {
	r := rand.New(rand.NewPCG(13, 14))
	in, out := 0, 0
	for k := range 3000 {
		names := "abcdefg"[:2+r.IntN(6)]
		l, x := randomSums(r, r.IntN(6), names), randomSums(r, 1, names)[0]
		choices, separations := len(refChoices(l, x)), refSeparations(l, x)
		if (choices > 0) == (separations > 0) {
			t.Fatalf("%s, %s: %d choices, %d separations", texts(l...), texts(x), choices, separations)
		}
		if k%3 == 0 {
			l, x = randomTerms(r, 6, 4), randomTerm(r, 4)
		}
		c, e := xor.Span(l, x)
		s, f := xor.Refute(l, x)
		switch {
		case e == api.OK && f == api.ErrExists && xor.Check(l, x, c) && len(s) == 0:
			in++
		case e == api.ErrNotFound && f == api.OK && xor.CheckRefute(l, x, s) && len(s) <= len(l)+1 && len(c) == 0:
			out++
		default:
			t.Fatalf("%s, %s: %v, %v, %s, %v", texts(l...), texts(x), c, e, texts(s...), f)
		}
	}
	if in < 500 || out < 500 {
		t.Errorf("%d and %d cases only", in, out)
	}
}

// P8.2: the same holds for long lists.
func TestEitherChoiceOrSeparationOfMany(t *testing.T) {
	r := rand.New(rand.NewPCG(15, 16))
	in, out := 0, 0
	for range 150 {
		n := 1 + r.IntN(199)
		pool := many("a", n+r.IntN(20))
		var l []api.Term
		for range n {
			l = append(l, app("xor", pick(r, pool), pick(r, pool), pick(r, pool)))
		}
		x := app("xor", pick(r, pool), pick(r, l), pick(r, pool))
		c, e := xor.Span(l, x)
		s, f := xor.Refute(l, x)
		switch {
		case e == api.OK && f == api.ErrExists && xor.Check(l, x, c) && refCheck(l, x, c):
			in++
		case e == api.ErrNotFound && f == api.OK && xor.CheckRefute(l, x, s) && len(s) <= n+1:
			out++
		default:
			t.Fatalf("%s, %s: %v, %v, %s, %v", texts(l...), texts(x), c, e, texts(s...), f)
		}
	}
	if in < 20 || out < 20 {
		t.Errorf("%d and %d cases only", in, out)
	}
}

// P8.2: the elements of a basis have the span of the whole list, and none of
// them could be left out.
func TestBasisSpansTheList(t *testing.T) {
	r := rand.New(rand.NewPCG(17, 18))
	for range 2000 {
		l := randomSums(r, r.IntN(12), "abcdefghi")
		indices, e := xor.Basis(l)
		n, f := xor.Rank(l)
		if e != api.OK || f != api.OK || n != len(indices) {
			t.Fatalf("%s: %v, %v, %d, %v", texts(l...), indices, e, n, f)
		}
		var basis []api.Term
		for _, i := range indices {
			basis = append(basis, l[i])
		}
		for _, x := range append(l, randomSums(r, 3, "abcdefghi")...) {
			_, e = xor.Span(l, x)
			_, f = xor.Span(basis, x)
			if e != f {
				t.Fatalf("%s, %v, %s: %v, %v", texts(l...), indices, texts(x), e, f)
			}
		}
		for i := range basis {
			if _, e := xor.Span(slices.Delete(slices.Clone(basis), i, i+1), basis[i]); e != api.ErrNotFound {
				t.Fatalf("%s, %v: not independent", texts(l...), indices)
			}
		}
	}
}

// P8.2: the rank does not depend on the order of a list, and adding elements to
// others does not change the span.
func TestSpanOfOtherLists(t *testing.T) {
	r := rand.New(rand.NewPCG(19, 20))
	for range 2000 {
		l := randomSums(r, 1+r.IntN(8), "abcdefg")
		m := slices.Clone(l)
		r.Shuffle(len(m), func(i, k int) { m[i], m[k] = m[k], m[i] })
		for i := 1; i < len(m); i++ {
			if r.IntN(2) == 0 {
				m[i] = sumOf(t, m[i], m[r.IntN(i)])
			}
		}
		a, e := xor.Rank(l)
		b, f := xor.Rank(m)
		if e != api.OK || f != api.OK || a != b {
			t.Fatalf("%s; %s: %d, %v, %d, %v", texts(l...), texts(m...), a, e, b, f)
		}
		x := randomSums(r, 1, "abcdefg")[0]
		_, e = xor.Span(l, x)
		_, f = xor.Span(m, x)
		if e != f {
			t.Fatalf("%s; %s; %s: %v, %v", texts(l...), texts(m...), texts(x), e, f)
		}
	}
}
