package exponent_test

import (
	"math/rand/v2"
	"slices"
	"testing"

	"sealring/api"
	"sealring/exponent"
	"sealring/term"
)

// P6.2: Of leads from the term of a product to the product, and Term from that
// of a term in this form to the term.
func TestOfAndTermAreInverse(t *testing.T) {
	r := rand.New(rand.NewPCG(5, 6))
	found := 0
	for range 20000 {
		l := randomProduct(r, 5, 3)
		x, e := exponent.Term(l)
		if e != api.OK {
			count := 0
			for _, p := range l {
				count += max(p.N, -p.N)
			}
			if e != api.ErrTooLarge || count <= api.MaxKids {
				t.Fatalf("%v: %v", l, e)
			}
			continue
		}
		m, e := exponent.Of(x)
		y, f := exponent.Term(m)
		if e != api.OK || f != api.OK || !sameProduct(l, m) || !same(x, y) {
			t.Fatalf("%v: %s, %v, %v, %s, %v", l, show(x), m, e, show(y), f)
		}
		found++
	}
	if found < 1000 {
		t.Errorf("%d cases only", found)
	}
}

// P6.2: the product of a mul of terms is that of their products, that of inv
// the inverse.
func TestOfMul(t *testing.T) {
	r := rand.New(rand.NewPCG(7, 8))
	found := 0
	for range 20000 {
		x, y, z := randomExponent(r, 4), randomExponent(r, 4), randomExponent(r, 4)
		a, e := exponent.Of(x)
		b, f := exponent.Of(y)
		c, g := exponent.Of(z)
		all := app("mul", x, y, z)
		if term.Valid(all) != api.OK {
			continue
		}
		l, h := exponent.Of(all)
		if e != api.OK || f != api.OK || g != api.OK {
			if h != api.ErrArity {
				t.Fatalf("%s: %v", show(all), h)
			}
			continue
		}
		m, e := exponent.Mul(a, b)
		m, f = exponent.Mul(m, c)
		if e != api.OK || f != api.OK || h != api.OK || !sameProduct(l, m) {
			t.Fatalf("%s: %v, %v, %v", show(all), l, h, m)
		}
		if m = of(t, app("inv", x)); !sameProduct(m, exponent.Inverse(a)) {
			t.Fatalf("inv of %s: %v", show(x), m)
		}
		found++
	}
	if found < 1000 {
		t.Errorf("%d cases only", found)
	}
}

// okay returns a product if there is no error.
func okay(t *testing.T) func(l []api.Power, e api.Errno) []api.Power {
	return func(l []api.Power, e api.Errno) []api.Power {
		t.Helper()
		if e != api.OK {
			t.Fatalf("%v", e)
		}
		return l
	}
}

// P6.2: products form a commutative group, of which Times gives the powers.
func TestGroup(t *testing.T) {
	r := rand.New(rand.NewPCG(9, 10))
	for range 5000 {
		a, b, c := randomProduct(r, 4, 9), randomProduct(r, 4, 9), randomProduct(r, 4, 9)
		ab := okay(t)(exponent.Mul(a, b))
		if ba := okay(t)(exponent.Mul(b, a)); !sameProduct(ab, ba) {
			t.Fatalf("%v, %v: %v, %v", a, b, ab, ba)
		}
		left := okay(t)(exponent.Mul(ab, c))
		right := okay(t)(exponent.Mul(a, okay(t)(exponent.Mul(b, c))))
		if !sameProduct(left, right) {
			t.Fatalf("%v, %v, %v: %v, %v", a, b, c, left, right)
		}
		if !sameProduct(okay(t)(exponent.Mul(a, nil)), a) || len(okay(t)(exponent.Mul(exponent.Inverse(a), a))) != 0 || !sameProduct(exponent.Inverse(exponent.Inverse(a)), a) {
			t.Fatalf("%v", a)
		}
		m, n := r.IntN(19)-9, r.IntN(19)-9
		left = okay(t)(exponent.Times(a, m+n))
		right = okay(t)(exponent.Mul(okay(t)(exponent.Times(a, m)), okay(t)(exponent.Times(a, n))))
		if !sameProduct(left, right) || !sameProduct(okay(t)(exponent.Times(a, -n)), exponent.Inverse(okay(t)(exponent.Times(a, n)))) {
			t.Fatalf("%v, %d, %d: %v, %v", a, m, n, left, right)
		}
		left = okay(t)(exponent.Times(ab, n))
		right = okay(t)(exponent.Mul(okay(t)(exponent.Times(a, n)), okay(t)(exponent.Times(b, n))))
		if !sameProduct(left, right) || !sameProduct(okay(t)(exponent.Times(a, 1)), a) {
			t.Fatalf("%v, %v, %d: %v, %v", a, b, n, left, right)
		}
	}
}

// A problem has generators, and a product that they may generate.
type problem struct {
	l [][]api.Power
	m []api.Power
}

// randomProblem returns a problem in which powers, columns and generators are
// few or many. Sometimes each generator has a first factor of its own, which
// keeps the numbers of the elimination smaller.
func randomProblem(r *rand.Rand) problem {
	columns, limit := many("a", 1+r.IntN(12)), pick(r, []int{1, 2, 3, 6, 30, 200, 1000})
	some := func() []api.Power {
		l, sparse := slices.Clone(columns), 1+r.IntN(4)
		for i := range l {
			l[i].N = r.IntN(2*limit+1) - limit
		}
		return slices.DeleteFunc(l, func(p api.Power) bool { return p.N == 0 || r.IntN(sparse) > 0 })
	}
	var p problem
	own := r.IntN(2) == 0
	for i := range r.IntN(pick(r, []int{4, 8, 13})) {
		l := some()
		if own && i < len(columns) {
			l = slices.DeleteFunc(l, func(p api.Power) bool { return term.Compare(p.Term, columns[i].Term) <= 0 })
			l = append([]api.Power{{Term: columns[i].Term, N: 1 + r.IntN(limit)}}, l...)
		}
		p.l = append(p.l, l)
	}
	if r.IntN(3) == 0 {
		p.m = some()
		return p
	}
	// a product that is generated, or nearly so
	for _, generator := range p.l {
		n := r.IntN(7) - 3
		if next, e := exponent.Times(generator, n); e == api.OK {
			if next, e = exponent.Mul(p.m, next); e == api.OK {
				p.m = next
			}
		}
	}
	if r.IntN(2) == 0 {
		if next, e := exponent.Mul(p.m, []api.Power{pick(r, columns)}); e == api.OK {
			p.m = next
		}
	}
	return p
}

// P6.1: Member and Refute have the errors of the definition, and results that
// are right.
// P6.2: a product has either integers or a character, never both.
func TestEitherMemberOrRefuted(t *testing.T) {
	r := rand.New(rand.NewPCG(11, 12))
	found := map[[2]api.Errno]int{}
	for range 30000 {
		p := randomProblem(r)
		c, e := exponent.Member(p.l, p.m)
		x, f := exponent.Refute(p.l, p.m)
		if wantE, wantF := refErrors(p.l, p.m); e != wantE || f != wantF {
			t.Fatalf("%v, %v: %v, %v, not %v, %v", p.l, p.m, e, f, wantE, wantF)
		}
		found[[2]api.Errno{e, f}]++
		if e == api.OK && !(refCheck(p.l, p.m, c) && exponent.Check(p.l, p.m, c)) || e != api.OK && len(c) != 0 {
			t.Fatalf("%v, %v: %v, %v", p.l, p.m, c, e)
		}
		if f == api.OK && !(refCheckRefute(p.l, p.m, x) && exponent.CheckRefute(p.l, p.m, x)) || f != api.OK && show(x) != show(api.Character{}) {
			t.Fatalf("%v, %v: %v, %v", p.l, p.m, x, f)
		}
	}
	for _, errors := range [][2]api.Errno{{api.OK, api.ErrExists}, {api.ErrNotFound, api.OK}, {api.ErrNotFound, api.ErrTooLarge}, {api.ErrTooLarge, api.ErrTooLarge}} {
		if found[errors] < 100 {
			t.Errorf("%v: too few of %v", found, errors)
		}
	}
}

// P6.1: Check and CheckRefute do what the definition says, for certificates
// that are right, and for others.
// P6.2: no product has a certificate of both kinds.
func TestChecksByDefinition(t *testing.T) {
	r := rand.New(rand.NewPCG(13, 14))
	members, refuted := 0, 0
	for range 30000 {
		columns, mod := many("a", 1+r.IntN(3)), pick(r, []int{0, 0, 1, 2, 3, 4, 6, -2})
		some := func(limit int) []api.Power {
			var l []api.Power
			for _, p := range columns {
				if p.N = r.IntN(2*limit+1) - limit; p.N != 0 {
					l = append(l, p)
				}
			}
			return l
		}
		var l [][]api.Power
		var c []int
		for range r.IntN(4) {
			l, c = append(l, some(2)), append(c, r.IntN(5)-2)
		}
		m := some(2)
		x := api.Character{Mod: mod, Values: some(3)}
		if len(m) > 0 && r.IntN(40) == 0 {
			m[0].N = 0
		}
		if len(x.Values) > 1 && r.IntN(40) == 0 {
			slices.Reverse(x.Values)
		}
		is, not := exponent.Check(l, m, c), exponent.CheckRefute(l, m, x)
		if is != refCheck(l, m, c) || not != refCheckRefute(l, m, x) || is && not {
			t.Fatalf("%v, %v, %v, %v: %v, %v", l, m, c, x, is, not)
		}
		if is {
			members++
		}
		if not {
			refuted++
			if _, e := exponent.Member(l, m); e != api.ErrNotFound {
				t.Fatalf("%v, %v: %v, but refuted by %v", l, m, e, x)
			}
		}
		if _, e := exponent.Member(l, m); is && e != api.OK {
			t.Fatalf("%v, %v: %v, but %v", l, m, e, c)
		}
	}
	if members < 500 || refuted < 500 {
		t.Errorf("%d and %d cases only", members, refuted)
	}
}
