package theory_test

import (
	"math/rand/v2"
	"slices"
	"testing"

	"sealring/api"
	"sealring/rewrite"
	"sealring/term"
	"sealring/theory"
)

// P9.2: a normal form is its own normal form, is valid, equal to the term, and
// plain if there are no destructors in it.
func TestNormalFormsAreNormal(t *testing.T) {
	r := rand.New(rand.NewPCG(5, 6))
	found := 0
	for range 20000 {
		x := randomTerm(r, everything, 3+r.IntN(5))
		n, e := theory.Normal(x)
		if e != api.OK {
			continue
		}
		if again, e := theory.Normal(n); e != api.OK || !same(again, n) {
			t.Fatalf("%s, %s: %s, %v", text(x), text(n), text(again), e)
		}
		left := slices.ContainsFunc(term.Subterms([]api.Term{n}), func(u api.Term) bool {
			return u.Kind == api.TermApp && refTable()[u.Name].kind == api.SymDestructor
		})
		if theory.Valid(n) != api.OK || !theory.Equal(x, n) || theory.Plain(n) == left {
			t.Fatalf("%s, %s: %v, %v", text(x), text(n), theory.Valid(n), theory.Plain(n))
		}
		if theory.Free(x) && !theory.Plain(x) {
			t.Fatalf("%s is free, but not plain", text(x))
		}
		found++
	}
	if found < 10000 {
		t.Errorf("%d cases only", found)
	}
}

// P9.2: Equal is an equivalence for terms that have normal forms, and false for
// all others.
func TestEqualIsAnEquivalence(t *testing.T) {
	r := rand.New(rand.NewPCG(7, 8))
	var l []api.Term
	for range 60 {
		x := randomTerm(r, everything, 3)
		l = append(l, x, disguised(r, x), disguised(r, disguised(r, x)))
	}
	l = append(l, app("f"), api.Term{}, app("mul", app("mul", atoms("a", 8)...), atom("a", api.SortAny)))
	equal := make([][]bool, len(l))
	pairs := 0
	for i, x := range l {
		for _, y := range l {
			e := theory.Equal(x, y)
			equal[i] = append(equal[i], e)
			if e && !same(x, y) {
				pairs++
			}
		}
	}
	for i, x := range l {
		if _, e := theory.Normal(x); equal[i][i] != (e == api.OK) {
			t.Fatalf("%s: %v, %v", text(x), equal[i][i], e)
		}
		for k := range l {
			if equal[i][k] != equal[k][i] {
				t.Fatalf("not symmetric: %s, %s", text(x), text(l[k]))
			}
			for m := range l {
				if equal[i][k] && equal[k][m] && !equal[i][m] {
					t.Fatalf("not transitive: %s, %s, %s", text(x), text(l[k]), text(l[m]))
				}
			}
		}
	}
	if pairs < 300 {
		t.Errorf("%d pairs only", pairs)
	}
}

// disguised returns a term that an equation connects with x: these are all
// equations of the document, read backwards.
func disguised(r *rand.Rand, x api.Term) api.Term {
	other := func() api.Term { return randomTerm(r, everything, 3) }
	k := other()
	switch r.IntN(17) {
	case 0:
		return app("fst", app("pair", x, k))
	case 1:
		return app("snd", app("pair", k, x))
	case 2:
		return app("dec", app("enc", x, k), k)
	case 3:
		return app("adec", app("aenc", x, app("pk", k)), k)
	case 4:
		return app("open", app("sign", x, k), app("pk", k))
	case 5:
		return app("read", app("sign", x, k))
	case 6:
		return app("xor", x, app("zero"))
	case 7:
		return app("xor", k, x, k)
	case 8:
		return app("xor", app("xor", x, k), k)
	case 9:
		return app("mul", app("one"), x)
	case 10:
		return app("mul", k, x, app("inv", k))
	case 11:
		return app("inv", app("inv", x))
	case 12:
		return app("exp", x, app("one"))
	case 13:
		return app("exp", app("exp", x, k), app("inv", k))
	case 14:
		return app("mul", k, app("mul", app("inv", k), x))
	case 15:
		l := other()
		return app("xor", l, app("xor", k, x), app("xor", l, k))
	}
	return rearranged(r, x)
}

// rearranged puts the operands of x, if its symbol is xor, mul or exp, together
// in another way.
func rearranged(r *rand.Rand, x api.Term) api.Term {
	if x.Kind != api.TermApp {
		return x
	}
	switch {
	case x.Name == "xor" || x.Name == "mul":
		l := slices.Clone(x.Kids)
		r.Shuffle(len(l), func(i, k int) { l[i], l[k] = l[k], l[i] })
		if len(l) > 2 {
			l = []api.Term{app(x.Name, l[1:]...), l[0]}
		}
		return app(x.Name, l...)
	case x.Name == "inv" && x.Kids[0].Kind == api.TermApp && x.Kids[0].Name == "mul":
		var l []api.Term
		for _, kid := range x.Kids[0].Kids {
			l = append(l, app("inv", kid))
		}
		return app("mul", l...)
	case x.Name == "exp" && x.Kids[0].Kind == api.TermApp && x.Kids[0].Name == "exp":
		b, e, f := x.Kids[0].Kids[0], x.Kids[0].Kids[1], x.Kids[1]
		return pick(r, []api.Term{app("exp", app("exp", b, f), e), app("exp", b, app("mul", f, e))})
	}
	return x
}

// P9.2 and T1: terms remain equal if a part is replaced by an equal one, and
// terms that are connected by equations have the same normal form.
func TestEqualParts(t *testing.T) {
	r := rand.New(rand.NewPCG(9, 10))
	found := 0
	for range 20000 {
		x := randomTerm(r, everything, 2+r.IntN(4))
		y := x
		for range 1 + r.IntN(3) {
			p := pick(r, randomPlaces(y))
			part, _ := term.At(y, p)
			y, _ = term.Replace(y, p, disguised(r, part))
		}
		n, e := theory.Normal(x)
		m, f := theory.Normal(y)
		if e != api.OK || f != api.OK {
			if f != api.OK && f != api.ErrTooLarge {
				t.Fatalf("%s: %v", text(y), f)
			}
			continue
		}
		if !same(n, m) || !theory.Equal(x, y) {
			t.Fatalf("%s, %s: %s, %s", text(x), text(y), text(n), text(m))
		}
		found++
	}
	if found < 15000 {
		t.Errorf("%d cases only", found)
	}
}

// P9.2: terms also remain equal if a part is replaced by its normal form.
func TestNormalParts(t *testing.T) {
	r := rand.New(rand.NewPCG(11, 12))
	found := 0
	for range 10000 {
		x := randomTerm(r, everything, 3+r.IntN(4))
		if _, e := theory.Normal(x); e != api.OK {
			continue
		}
		p := pick(r, randomPlaces(x))
		part, _ := term.At(x, p)
		y, _ := term.Replace(x, p, normalOf(t, part))
		if !theory.Equal(x, y) {
			t.Fatalf("%s, %s: %v", text(x), text(y), p)
		}
		found++
	}
	if found < 5000 {
		t.Errorf("%d cases only", found)
	}
}

// P9.2: sums are associative and commutative, and cancel; powers commute.
func TestLaws(t *testing.T) {
	r := rand.New(rand.NewPCG(13, 14))
	zero, one := app("zero"), app("one")
	found := 0
	for range 5000 {
		a, b, c := randomTerm(r, everything, 4), randomTerm(r, everything, 4), randomTerm(r, everything, 4)
		for what, sides := range map[string][2]api.Term{
			"associative sums":      {app("xor", a, app("xor", b, c)), app("xor", app("xor", a, b), c)},
			"sums of three":         {app("xor", a, b, c), app("xor", a, app("xor", b, c))},
			"commutative sums":      {app("xor", a, b), app("xor", b, a)},
			"sums cancel":           {app("xor", a, a), zero},
			"sums cancel elsewhere": {app("xor", a, app("xor", b, a)), b},
			"zero":                  {app("xor", zero, a), a},
			"commutative powers":    {app("exp", app("exp", a, b), c), app("exp", app("exp", a, c), b)},
			"powers of products":    {app("exp", app("exp", a, b), c), app("exp", a, app("mul", c, b))},
			"powers back":           {app("exp", app("exp", a, b), app("inv", b)), a},
			"power one":             {app("exp", a, one), a},
			"associative products":  {app("mul", a, app("mul", b, c)), app("mul", app("mul", a, b), c)},
			"commutative products":  {app("mul", a, b), app("mul", b, a)},
			"products of inverses":  {app("mul", a, app("inv", a)), one},
			"inverses of products":  {app("inv", app("mul", a, b)), app("mul", app("inv", b), app("inv", a))},
			"product with one":      {app("mul", a, one), a},
		} {
			n, e := theory.Normal(sides[0])
			m, f := theory.Normal(sides[1])
			if e != api.OK || f != api.OK {
				continue
			}
			if !same(n, m) || !theory.Equal(sides[0], sides[1]) {
				t.Fatalf("%s: %s, %s: %s, %s", what, text(sides[0]), text(sides[1]), text(n), text(m))
			}
			found++
		}
	}
	if found < 60000 {
		t.Errorf("%d cases only", found)
	}
}

// P9.2: for terms without xor, exp and exponents, the normal form is that of
// the destructor rules.
func TestNormalFormByTheRules(t *testing.T) {
	r := rand.New(rand.NewPCG(15, 16))
	rules := theory.Rules()
	steps, left := 0, 0
	for range 10000 {
		x := randomTerm(r, destructing, 3+r.IntN(6))
		n, e := theory.Normal(x)
		want, trace, f := rewrite.Normal(rules, x, 1000)
		if e != f || !same(n, want) || e == api.OK && !rewrite.IsNormal(rules, n) {
			t.Fatalf("%s: %s, %v, not %s, %v", text(x), text(n), e, text(want), f)
		}
		steps += len(trace)
		if !theory.Plain(n) {
			left++
		}
	}
	if steps < 5000 || left < 1000 {
		t.Errorf("%d steps and %d terms with destructors only", steps, left)
	}
}

// P9.2: Untuple leads from the tuple of terms to these terms, if the last one
// is no pair; otherwise to more. The tuple of these is the same.
func TestTuplesBack(t *testing.T) {
	r := rand.New(rand.NewPCG(17, 18))
	pairs := 0
	for range 5000 {
		var l []api.Term
		for range 1 + r.IntN(6) {
			l = append(l, randomTerm(r, []string{"pair", "pair", "hash", "fst", "xor"}, 1+r.IntN(5)))
		}
		x, e := theory.Tuple(l)
		if e != api.OK {
			t.Fatalf("%s: %v", texts(l), e)
		}
		m := theory.Untuple(x)
		last := l[len(l)-1]
		if last.Kind == api.TermApp && last.Name == "pair" {
			pairs++
			l = append(l[:len(l)-1:len(l)-1], theory.Untuple(last)...)
		}
		if !sameTerms(m, l) {
			t.Fatalf("%s: %s, not %s", text(x), texts(m), texts(l))
		}
		if y, e := theory.Tuple(m); e != api.OK || !same(y, x) {
			t.Fatalf("%s: %s, %v", texts(m), text(y), e)
		}
	}
	if pairs < 500 {
		t.Errorf("%d pairs only", pairs)
	}
}
