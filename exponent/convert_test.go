package exponent_test

import (
	"math/rand/v2"
	"slices"
	"strings"
	"testing"

	"sealring/api"
	"sealring/exponent"
	"sealring/term"
)

// P6.1: the products of terms, and the terms of these products.
func TestOfAndTerm(t *testing.T) {
	for _, c := range []struct{ t, l, want string }{
		// the examples of the document
		{"mul(b:any, inv(mul(a:any, b:any)), a:any, a:any)", "a1", "a:any"},
		{"mul(a:any, inv(b:any), a:any)", "a2 b-1", "mul(a:any, a:any, inv(b:any))"},

		{"a:any", "a1", "a:any"},
		{"one()", "", "one()"},
		{"inv(a:any)", "a-1", "inv(a:any)"},
		{"inv(inv(a:any))", "a1", "a:any"},
		{"inv(one())", "", "one()"},
		{"mul(one(), one())", "", "one()"},
		{"mul(a:any, one())", "a1", "a:any"},
		{"mul(a:any, inv(a:any))", "", "one()"},
		{"mul(inv(a:any), a:any, inv(a:any))", "a-1", "inv(a:any)"},
		{"mul(b:any, a:any)", "a1 b1", "mul(a:any, b:any)"},
		{"mul(c:any, mul(b:any, mul(a:any, b:any)))", "a1 b2 c1", "mul(a:any, b:any, b:any, c:any)"},
		{"inv(mul(b:any, a:any, b:any))", "a-1 b-2", "mul(inv(a:any), inv(b:any), inv(b:any))"},
		{"inv(mul(a:any, inv(mul(b:any, inv(c:any)))))", "a-1 b1 c-1", "mul(b:any, inv(a:any), inv(c:any))"},
		{"mul(inv(a:any), c:any, inv(b:any), c:any)", "a-1 b-1 c2", "mul(c:any, c:any, inv(a:any), inv(b:any))"},
		{"mul(a:any, b:any, c:any, d:any, e:any, f:any, g:any, h:any)", "a1 b1 c1 d1 e1 f1 g1 h1", "mul(a:any, b:any, c:any, d:any, e:any, f:any, g:any, h:any)"},
	} {
		l, e := exponent.Of(must(t, c.t))
		if e != api.OK || !sameProduct(l, product(t, c.l)) {
			t.Errorf("Of(%s): %v, %v", c.t, l, e)
		}
		u, e := exponent.Term(l)
		if s, _ := term.Format(u); e != api.OK || s != c.want {
			t.Errorf("Term of %s: %s, %v", c.t, s, e)
		}
	}
}

// P6.1: factors stay as they are, whatever is inside of them, and are told
// apart and sorted as terms.
func TestFactors(t *testing.T) {
	for _, c := range []struct{ t, want string }{
		{"f(mul(a:any, a:any))", "f(mul(a:any, a:any))"},
		{"f(mul(b:any), inv(), one(a:any))", "f(mul(b:any), inv(), one(a:any))"},
		{"mul(f(inv(inv(a:any))), f(a:any))", "mul(f(a:any), f(inv(inv(a:any))))"},
		{"mul(f(mul(a:any, b:any)), inv(f(mul(b:any, a:any))))", "mul(f(mul(a:any, b:any)), inv(f(mul(b:any, a:any))))"},
		{"mul(f(a:any), z:any)", "mul(z:any, f(a:any))"},
		{"mul(a:nonce, a:any, ?a:nonce, ?a)", "mul(?a, ?a:nonce, a:any, a:nonce)"},
		{"mul(a:any, inv(a:key))", "mul(a:any, inv(a:key))"},
		{"mul(?a, inv(a:any))", "mul(?a, inv(a:any))"},
		{"mul(a(), inv(a:any))", "mul(a(), inv(a:any))"},
		{"mul(mul:any, inv(inv:any), one:any)", "mul(mul:any, one:any, inv(inv:any))"},
		{"inv(?one)", "inv(?one)"},
		{"?mul:data", "?mul:data"},
		{"mul(Mul(a:any), muls())", "mul(muls(), Mul(a:any))"},
	} {
		u, e := exponent.Term(of(t, must(t, c.t)))
		if s, _ := term.Format(u); e != api.OK || s != c.want {
			t.Errorf("%s: %s, %v", c.t, s, e)
		}
	}
}

// P6.1: terms that are not valid have no product, and neither have those whose
// symbols have a wrong number of kids outside of factors.
func TestOfErrors(t *testing.T) {
	for what, c := range invalid() {
		if l, e := exponent.Of(c.t); e != c.want || len(l) != 0 {
			t.Errorf("%s: %v, %v, not %v", what, l, e, c.want)
		}
	}
	for _, s := range []string{
		"mul()", "mul(a:any)", "inv()", "inv(a:any, a:any)", "one(a:any)", "one(one())",
		"mul(a:any, mul(a:any))", "mul(a:any, inv())", "mul(one(a:any), a:any)", "inv(mul(a:any))", "inv(inv(inv()))",
		"mul(a:any, b:any, c:any, one(a:any))", "mul(mul(mul(), a:any), a:any)", "mul(f(inv()), inv())",
	} {
		if l, e := exponent.Of(must(t, s)); e != api.ErrArity || len(l) != 0 {
			t.Errorf("%s: %v, %v", s, l, e)
		}
	}
}

// P6.1: a product has at most 200 factors, each as often as it occurs.
func TestOfManyFactors(t *testing.T) {
	x := tree(terms(many("a", 200)))
	if l, e := exponent.Of(x); e != api.OK || !sameProduct(l, many("a", 200)) {
		t.Errorf("200 factors: %v, %v", l, e)
	}
	for _, n := range []int{201, 344} {
		if l, e := exponent.Of(tree(terms(many("a", n)))); e != api.ErrTooLarge || len(l) != 0 {
			t.Errorf("%d factors: %v, %v", n, l, e)
		}
	}
	x = tree(slices.Repeat(terms(many("a", 43)), 8))
	l, e := exponent.Of(x)
	if e != api.OK || len(l) != 43 || slices.ContainsFunc(l, func(p api.Power) bool { return p.N != 8 }) {
		t.Errorf("43 factors, 8 times: %v, %v", l, e)
	}
	a := atom("a", api.SortAny)
	if l, e := exponent.Of(tree(slices.Repeat([]api.Term{a}, 344))); e != api.OK || !sameProduct(l, []api.Power{power("a", 344)}) {
		t.Errorf("344 times: %v, %v", l, e)
	}
	x = app("inv", tree(slices.Repeat([]api.Term{app("inv", a), app("inv", a), a}, 60)))
	if l, e := exponent.Of(x); e != api.OK || !sameProduct(l, []api.Power{power("a", 60)}) {
		t.Errorf("60 times: %v, %v", l, e)
	}
	x = app("mul", app("mul"), tree(terms(many("a", 201))))
	if l, e := exponent.Of(x); e != api.ErrArity || len(l) != 0 {
		t.Errorf("arity before 201 factors: %v, %v", l, e)
	}
}

// P6.1: Of does what the definition says.
func TestOfByDefinition(t *testing.T) {
	r := rand.New(rand.NewPCG(1, 2))
	found := map[api.Errno]int{}
	for range 20000 {
		x := randomExponent(r, 5)
		want, right := refOf(x)
		l, e := exponent.Of(x)
		found[e]++
		switch {
		case term.Valid(x) != api.OK:
			right = e == term.Valid(x) && len(l) == 0
		case !right:
			right = e == api.ErrArity && len(l) == 0
		default:
			right = e == api.OK && sameProduct(l, want)
		}
		if !right {
			t.Fatalf("%s: %v, %v", show(x), l, e)
		}
	}
	if found[api.OK] < 1000 || found[api.ErrArity] < 1000 {
		t.Errorf("too few cases: %v", found)
	}
}

// P6.1: lists that are no products have no term.
func TestTermOfBadProducts(t *testing.T) {
	for what, c := range badProducts() {
		if x, e := exponent.Term(c.l); e != c.want || !same(x, api.Term{}) {
			t.Errorf("%s: %s, %v, not %v", what, show(x), e, c.want)
		}
	}
}

// P6.1: a term has at most 8 operands, and is valid.
func TestTermTooLarge(t *testing.T) {
	for _, c := range []struct {
		l    string
		want api.Errno
	}{
		{"a8", api.OK}, {"a-8", api.OK}, {"a4 b-4", api.OK}, {"a1 b-6 c1", api.OK},
		{"a9", api.ErrTooLarge}, {"a-9", api.ErrTooLarge}, {"a4 b-5", api.ErrTooLarge}, {"a-5 b4", api.ErrTooLarge},
		{"a1 b1 c1 d1 e1 f1 g1 h1 i1", api.ErrTooLarge}, {"a1000", api.ErrTooLarge}, {"a-1000 b1000", api.ErrTooLarge},
	} {
		x, e := exponent.Term(product(t, c.l))
		if e != c.want || e == api.OK && term.Size(x) < 9 || e != api.OK && !same(x, api.Term{}) {
			t.Errorf("%s: %s, %v", c.l, show(x), e)
		}
	}
	if _, e := exponent.Term(many("a", 200)); e != api.ErrTooLarge {
		t.Errorf("200 factors: %v", e)
	}
	a := atom("a", api.SortAny)
	for what, c := range map[string]struct {
		t    api.Term
		n    int
		want api.Errno
	}{
		"400 nodes":              {sized(400), 1, api.OK},
		"400 nodes, inv":         {sized(400), -1, api.ErrTooLarge},
		"399 nodes, inv":         {sized(399), -1, api.OK},
		"400 nodes, mul":         {sized(399), 2, api.ErrTooLarge},
		"199 nodes, twice":       {sized(199), 2, api.OK},
		"200 nodes, twice":       {sized(200), 2, api.ErrTooLarge},
		"198 nodes, inv twice":   {sized(198), -2, api.OK},
		"199 nodes, inv twice":   {sized(199), -2, api.ErrTooLarge},
		"40 levels":              {tower(40, a), 1, api.OK},
		"40 levels, inv":         {tower(40, a), -1, api.ErrTooLarge},
		"40 levels, mul":         {tower(40, a), 2, api.ErrTooLarge},
		"39 levels, inv":         {tower(39, a), -1, api.OK},
		"39 levels, mul":         {tower(39, a), 8, api.OK},
		"39 levels, mul and inv": {tower(39, a), -2, api.ErrTooLarge},
		"38 levels, mul and inv": {tower(38, a), -8, api.OK},
	} {
		x, e := exponent.Term([]api.Power{{Term: c.t, N: c.n}})
		if e != c.want || e != api.OK && !same(x, api.Term{}) {
			t.Errorf("%s: %v, not %v", what, e, c.want)
		}
	}
}

// P6.1: equal arguments give equal results that share no memory with one
// another, within themselves, or with the arguments, which do not change.
func TestConvertSharesNothing(t *testing.T) {
	x := must(t, "mul(g(h(a:any)), f(b:any), inv(f(c:any)), f(b:any), inv(g(h(?x))), g(h(a:any)), f(?x), mul(f(c:any), g(h(?x))))")
	before := show(x)
	l, m := of(t, x), of(t, x)
	if show(l) != show(m) {
		t.Errorf("%v, %v", l, m)
	}
	apartProducts(t, "Of", l, m)
	apart(t, "Of", append(terms(l, m), x)...)
	if show(x) != before || !strings.Contains(show(l), "N:2") {
		t.Errorf("%v: %v", x, l)
	}

	factor := of(t, must(t, "mul(g(a:any), g(a:any), inv(mul(h(a:any), h(a:any), h(a:any))))"))
	before = show(factor)
	y, e := exponent.Term(factor)
	z, f := exponent.Term(factor)
	if e != api.OK || f != api.OK || show(y) != show(z) || show(factor) != before {
		t.Errorf("%v, %v, %v, %v", y, e, z, f)
	}
	apart(t, "Term", append(terms(factor), y, z)...)
	single := []api.Power{{Term: must(t, "g(h(a:any))"), N: 1}}
	y, _ = exponent.Term(single)
	apart(t, "Term of a factor", append(terms(single), y)...)
}
