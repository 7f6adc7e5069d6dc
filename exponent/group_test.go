package exponent_test

import (
	"math"
	"math/rand/v2"
	"slices"
	"testing"

	"sealring/api"
	"sealring/exponent"
)

// P6.1: Mul adds the powers.
func TestMul(t *testing.T) {
	for _, c := range []struct{ a, b, want string }{
		{"", "", ""},
		{"a1", "", "a1"},
		{"", "a-1", "a-1"},
		{"a1", "b1", "a1 b1"},
		{"b1", "a1", "a1 b1"},
		{"a2 b-1", "b1 c1", "a2 c1"},
		{"a2 b-1", "a-2 b1", ""},
		{"a1 c1 e1", "b-1 c2 d1 e-3", "a1 b-1 c3 d1 e-2"},
		{"a500", "a500", "a1000"},
		{"a-999", "a-1", "a-1000"},
		{"a1000", "a-1000", ""},
		{"a1000 b-1000", "a-1 b1", "a999 b-999"},
	} {
		l, e := exponent.Mul(product(t, c.a), product(t, c.b))
		if e != api.OK || !sameProduct(l, product(t, c.want)) {
			t.Errorf("%s, %s: %v, %v", c.a, c.b, l, e)
		}
	}
}

// P6.1: Times multiplies the powers.
func TestTimes(t *testing.T) {
	for _, c := range []struct {
		a    string
		n    int
		want string
	}{
		{"", 1000, ""}, {"", -1000, ""}, {"", 0, ""},
		{"a2 b-1", 1, "a2 b-1"}, {"a2 b-1", -3, "a-6 b3"}, {"a2 b-1", 0, ""}, {"a1000", 0, ""},
		{"a1 b-1", 1000, "a1000 b-1000"}, {"a1 b-1", -1000, "a-1000 b1000"},
		{"a500", 2, "a1000"}, {"a500", -2, "a-1000"}, {"a1000 b-1000", -1, "a-1000 b1000"},
	} {
		l, e := exponent.Times(product(t, c.a), c.n)
		if e != api.OK || !sameProduct(l, product(t, c.want)) {
			t.Errorf("%s, %d: %v, %v", c.a, c.n, l, e)
		}
	}
}

// P6.1: the errors of Mul, in their order.
func TestMulErrors(t *testing.T) {
	good := product(t, "a1 b1")
	for what, c := range badProducts() {
		if l, e := exponent.Mul(c.l, good); e != c.want || len(l) != 0 {
			t.Errorf("%s, at the left: %v, %v, not %v", what, l, e, c.want)
		}
		if l, e := exponent.Mul(good, c.l); e != c.want || len(l) != 0 {
			t.Errorf("%s, at the right: %v, %v, not %v", what, l, e, c.want)
		}
		for other, d := range badProducts() {
			if l, e := exponent.Mul(c.l, d.l); e != c.want || len(l) != 0 {
				t.Errorf("%s, %s: %v, %v, not %v", what, other, l, e, c.want)
			}
		}
	}
	with := func(l []api.Power, more ...api.Power) []api.Power { return append(slices.Clone(l), more...) }
	for what, c := range map[string]struct {
		a, b []api.Power
		want api.Errno
	}{
		"1001":                  {product(t, "a1000"), product(t, "a1"), api.ErrRange},
		"-1001":                 {product(t, "b1 c-500"), product(t, "a1 c-501"), api.ErrRange},
		"2000":                  {product(t, "a1000"), product(t, "a1000"), api.ErrRange},
		"200 factors":           {many("a", 100), many("b", 100), api.OK},
		"201 factors":           {many("a", 100), many("b", 101), api.ErrTooLarge},
		"400 factors":           {many("a", 200), many("b", 200), api.ErrTooLarge},
		"the same 200 factors":  {many("a", 200), many("a", 200), api.OK},
		"200 of 201":            {many("a", 200), []api.Power{power("a0007", -1), power("b", 1)}, api.OK},
		"1001 before too many":  {with(many("a", 200), power("b", 1000))[1:], with([]api.Power{power("a", 1)}, power("b", 1), power("c", 1)), api.ErrRange},
		"too many without 1001": {with(many("a", 200), power("b", 999))[1:], with([]api.Power{power("a", 1)}, power("b", 1), power("c", 1)), api.ErrTooLarge},
		"error before 1001":     {product(t, "a1000 b1"), []api.Power{power("a", 1), power("b", 0)}, api.ErrRange},
		"no factor before 1001": {product(t, "a1000"), []api.Power{power("a", 1), {Term: app("one"), N: 1}}, api.ErrInvalid},
	} {
		if l, e := exponent.Mul(c.a, c.b); e != c.want || e != api.OK && len(l) != 0 || e == api.OK && len(l) != 200 {
			t.Errorf("%s: %v, %v, not %v", what, l, e, c.want)
		}
	}
}

// P6.1: the errors of Times, in their order.
func TestTimesErrors(t *testing.T) {
	for what, c := range badProducts() {
		for _, n := range []int{0, 1, -1000, 1001} {
			if l, e := exponent.Times(c.l, n); e != c.want || len(l) != 0 {
				t.Errorf("%s, %d: %v, %v, not %v", what, n, l, e, c.want)
			}
		}
	}
	for _, c := range []struct {
		a string
		n int
	}{
		{"", 1001}, {"", -1001}, {"", math.MaxInt}, {"", math.MinInt}, {"a1", 1001}, {"a1", math.MinInt}, {"a2", 1 << 62}, {"a4", math.MinInt},
		{"a2", 501}, {"a2", -501}, {"a1 b-2", 501}, {"a1 b-2", -501}, {"a1000", 2}, {"a-1000", -1000}, {"a1000 b1", 1000},
	} {
		if l, e := exponent.Times(product(t, c.a), c.n); e != api.ErrRange || len(l) != 0 {
			t.Errorf("%s, %d: %v, %v", c.a, c.n, l, e)
		}
	}
}

// P6.1: Inverse negates all numbers of any list.
func TestInverse(t *testing.T) {
	if l := exponent.Inverse(nil); len(l) != 0 {
		t.Errorf("of nothing: %v", l)
	}
	if l := exponent.Inverse(product(t, "a2 b-1 c1000")); !sameProduct(l, product(t, "a-2 b1 c-1000")) {
		t.Errorf("of a product: %v", l)
	}
	for what, c := range badProducts() {
		if l := exponent.Inverse(c.l); !sameProduct(l, refInverse(c.l)) {
			t.Errorf("%s: %v", what, l)
		}
	}
	odd := []api.Power{{}, {Term: api.Term{Kind: 7, Name: "?", Sort: -1, Kids: []api.Term{{}}}, N: math.MaxInt}, {N: math.MinInt}, power("b", 0), power("a", -5), power("a", 5)}
	if l := exponent.Inverse(odd); !sameProduct(l, refInverse(odd)) {
		t.Errorf("of an odd list: %v", l)
	}
	if l := exponent.Inverse(many("a", 500)); len(l) != 500 {
		t.Errorf("of 500 powers: %v", l)
	}
}

// P6.1: Mul and Times do what the definition says.
func TestGroupByDefinition(t *testing.T) {
	r := rand.New(rand.NewPCG(3, 4))
	found := map[api.Errno]int{}
	for range 20000 {
		a, b := randomProduct(r, 5, 1000), randomProduct(r, 5, 1000)
		want, right := refMul(a, b), api.OK
		if slices.ContainsFunc(want, func(p api.Power) bool { return p.N < -1000 || p.N > 1000 }) {
			want, right = nil, api.ErrRange
		}
		l, e := exponent.Mul(a, b)
		if e != right || !sameProduct(l, want) {
			t.Fatalf("%v, %v: %v, %v, not %v", a, b, l, e, right)
		}
		found[e]++
		a, n := randomProduct(r, 4, 1+r.IntN(30)), r.IntN(121)-60
		want, right = refMul(slices.Repeat([][]api.Power{a}, max(n, -n))...), api.OK
		if n < 0 {
			want = refInverse(want)
		}
		if slices.ContainsFunc(want, func(p api.Power) bool { return p.N < -1000 || p.N > 1000 }) {
			want, right = nil, api.ErrRange
		}
		l, e = exponent.Times(a, n)
		if e != right || !sameProduct(l, want) {
			t.Fatalf("%v, %d: %v, %v, not %v", a, n, l, e, right)
		}
		found[e]++
	}
	if found[api.OK] < 1000 || found[api.ErrRange] < 1000 {
		t.Errorf("too few cases: %v", found)
	}
}

// P6.1: equal arguments give equal results that share no memory with one
// another, within themselves, or with the arguments, which do not change.
func TestGroupSharesNothing(t *testing.T) {
	a := of(t, must(t, "mul(g(h(a:any)), inv(f(c:any)), f(?x))"))
	b := of(t, must(t, "mul(g(h(a:any)), g(b:any), inv(f(?x)))"))
	before := show(a) + show(b)
	l, e := exponent.Mul(a, b)
	m, f := exponent.Mul(a, b)
	if e != api.OK || f != api.OK || show(l) != show(m) {
		t.Errorf("Mul: %v, %v, %v, %v", l, e, m, f)
	}
	apartProducts(t, "Mul", a, b, l, m)
	l, e = exponent.Mul(a, nil)
	m, f = exponent.Mul(nil, a)
	if e != api.OK || f != api.OK || show(l) != show(m) {
		t.Errorf("Mul with nothing: %v, %v, %v, %v", l, e, m, f)
	}
	apartProducts(t, "Mul with nothing", a, l, m)
	for _, n := range []int{1, -2} {
		l, e = exponent.Times(a, n)
		m, f = exponent.Times(a, n)
		if e != api.OK || f != api.OK || show(l) != show(m) {
			t.Errorf("Times: %v, %v, %v, %v", l, e, m, f)
		}
		apartProducts(t, "Times", a, l, m)
	}
	l, m = exponent.Inverse(a), exponent.Inverse(a)
	if show(l) != show(m) {
		t.Errorf("Inverse: %v, %v", l, m)
	}
	apartProducts(t, "Inverse", a, l, m)
	if show(a)+show(b) != before {
		t.Error("an argument has changed")
	}
	spare := append(make([]api.Power, 0, 10), a...)
	if _, e := exponent.Mul(spare, b); e != api.OK || show(spare[:10][len(a):]) != show(make([]api.Power, 10-len(a))) {
		t.Error("memory behind an argument has changed")
	}
}
