package order_test

import (
	"math"
	"math/rand/v2"
	"slices"
	"testing"

	"sealring/api"
	"sealring/order"
)

// P4.1: which weights are admissible.
func TestAdmissible(t *testing.T) {
	for _, w := range [][]int{{1, 1, 1, 1}, {1000, 1, 500, 1000}, {1, 1, 1, 0}, {1000, 1000, 1000, 0}} {
		if e := order.Admissible(letters, w); e != api.OK {
			t.Errorf("%v: %v", w, e)
		}
	}
	if e := order.Admissible(nil, []int{}); e != api.OK {
		t.Errorf("no names: %v", e)
	}
	if e := order.Admissible([]string{"a"}, []int{0}); e != api.OK {
		t.Errorf("one name: %v", e)
	}
	for what, c := range badWeights() {
		if e := order.Admissible(c.l, c.w); e != c.want {
			t.Errorf("%s: %v, not %v", what, e, c.want)
		}
	}
}

// badWeights are weights that are not admissible, with their errors.
func badWeights() map[string]struct {
	l    []string
	w    []int
	want api.Errno
} {
	bad := map[string]struct {
		l    []string
		w    []int
		want api.Errno
	}{
		"too few weights":          {letters, []int{1, 1, 1}, api.ErrArity},
		"no weights":               {letters, nil, api.ErrArity},
		"too many weights":         {letters, []int{1, 1, 1, 1, 1}, api.ErrArity},
		"weights without names":    {nil, []int{1}, api.ErrArity},
		"too few, and a wrong one": {letters, []int{0, 1, -1}, api.ErrArity},
		"0 as the first one":       {letters, []int{0, 1, 1, 1}, api.ErrRange},
		"0 as the last but one":    {letters, []int{1, 1, 0, 1}, api.ErrRange},
		"0 twice":                  {letters, []int{1, 1, 0, 0}, api.ErrRange},
		"a negative one":           {letters, []int{1, -1, 1, 1}, api.ErrRange},
		"a negative last one":      {letters, []int{1, 1, 1, -1}, api.ErrRange},
		"1001":                     {letters, []int{1001, 1, 1, 1}, api.ErrRange},
		"1001 as the last one":     {letters, []int{1, 1, 1, 1001}, api.ErrRange},
		"the least number":         {letters, []int{1, 1, 1, math.MinInt}, api.ErrRange},
		"the greatest number":      {letters, []int{1, 1, 1, math.MaxInt}, api.ErrRange},
	}
	for what, p := range badLists() {
		bad[what] = struct {
			l    []string
			w    []int
			want api.Errno
		}{p.l, nil, p.want}
		bad[what+", wrong weights"] = struct {
			l    []string
			w    []int
			want api.Errno
		}{p.l, make([]int, len(p.l)), p.want}
	}
	return bad
}

// P4.1: the weighted order, with the precedence a, b, f, g.
func TestKbo(t *testing.T) {
	one, zero := []int{1, 1, 1, 1}, []int{1, 1, 1, 0}
	for _, c := range []struct {
		w    []int
		a, b string
		want int
	}{
		// the examples of the document
		{one, "f(f(a:any))", "g(a:any)", 1},
		{one, "g(a:any)", "f(a:any)", 1},

		// variables
		{one, "?x", "?x", 0},
		{one, "?x", "?y", 2},
		{one, "?x", "?x:key", 2},
		{one, "a:any", "?x", 2},
		{one, "f(a:any)", "?x", 2},
		{one, "f(?x)", "?x", 1},
		{one, "f(?x:key)", "?x", 2},
		{one, "f(?x)", "f(?y)", 2},
		{one, "f(?x, ?y)", "f(?y, ?x)", 2},

		// each variable occurs at least as often, whatever the weights are
		{one, "f(?x, ?x)", "g(?x)", 1},
		{one, "f(?x, ?y)", "g(?x)", 1},
		{one, "f(?x, ?y)", "f(?x, ?x)", 2},
		{one, "f(?x, f(a:any, a:any))", "f(?x, ?x)", 2},
		{one, "g(?x, f(?y, ?z))", "f(g(?x, ?y), g(?x, ?z))", -1},
		{one, "f(?x, a:any)", "f(a:any, ?x)", 2},
		{one, "f(?x, b:any)", "f(?x, a:any)", 1},
		{one, "f(?x, ?y, b:any)", "f(?y, ?x, a:any)", 2},
		{one, "g(?x, ?y)", "f(?y, ?x)", 1},
		{one, "g(?x, ?y)", "f(?x, ?x)", 2},

		// weights
		{[]int{1, 2, 1, 1}, "f(a:any)", "b:any", 1},
		{[]int{2, 1, 1, 1}, "a:any", "b:any", 1},
		{[]int{1, 3, 1, 1}, "f(a:any)", "b:any", -1},
		{[]int{1000, 1, 1, 1}, "a:any", "g(g(g(b:any)))", 1},
		{[]int{1, 1, 5, 1}, "f(a:any)", "g(g(g(g(a:any))))", 1},
		{[]int{1, 1, 5, 1}, "f(a:any)", "g(g(g(g(g(a:any)))))", -1},
		{[]int{1, 1, 1000, 1}, "f(a:any)", "g(g(?x))", 2},
		{[]int{5, 1, 1, 1}, "f(?x)", "a:any", 2},
		{[]int{2, 1, 1, 1}, "f(?x)", "a:any", 1},
		{[]int{3, 1, 1, 1}, "f(?x, ?x)", "a(?x)", 2},
		{[]int{3, 1, 1, 1}, "f(?x, b:any)", "a(?x)", -1},

		// the symbols
		{one, "a:key", "a:any", 1},
		{one, "b:any", "a:tag", 1},
		{one, "a()", "a:tag", 1},
		{one, "f(a:any, b:any)", "f(f(a:any))", 1},
		{one, "g(f(a:any))", "f(g(b:any))", 1},

		// kids decide
		{one, "f(b:any, a:any)", "f(a:any, b:any)", 1},
		{one, "f(a:any, f(a:any))", "f(f(a:any), a:any)", -1},
		{one, "f(f(?x, ?y), ?z)", "f(?x, f(?y, ?z))", 1},
		{one, "f(?x, f(?y, ?z))", "f(?y, f(?x, ?z))", 2},
		{one, "f(?x, g(?y), f(?z))", "f(?x, f(?y), g(?z))", 1},
		{one, "f(?x, g(?y), f(?z))", "f(?x, f(?z), g(?y))", 2},
		{one, "f(?x, b:any)", "f(?x, b:any)", 0},
		{one, "f(g(a:any, b:any), ?y)", "f(g(b:any, a:any), ?y)", -1},
		{one, "f()", "f()", 0},

		// the weight 0
		{zero, "g(?x)", "?x", 1},
		{zero, "g(g(?x))", "?x", 1},
		{zero, "g(g(?x))", "g(?x)", 1},
		{zero, "g(g(?x))", "?y", 2},
		{zero, "g(a:any)", "?x", 2},
		{zero, "g(a:any)", "a:any", 1},
		{zero, "g(a:any)", "b:any", 1},
		{zero, "g(f(a:any))", "f(g(a:any))", 1},
		{zero, "f(?x)", "g(?x)", 1},
		{zero, "f(g(?x))", "g(f(?x))", -1},
		{zero, "f(g(a:any), a:any)", "f(a:any, g(a:any))", 1},
		{zero, "f(a:any, g(a:any))", "g(f(g(b:any), a:any))", -1},
		{zero, "?g", "?g", 0},
	} {
		checkBoth(t, func(a, b api.Term) (int, api.Errno) { return order.Kbo(letters, c.w, a, b) }, c.a, c.b, c.want)
	}
	checkBoth(t, func(a, b api.Term) (int, api.Errno) { return order.Kbo(nil, nil, a, b) }, "?x", "?x", 0)
	checkBoth(t, func(a, b api.Term) (int, api.Errno) { return order.Kbo([]string{"g", "f"}, []int{1, 1}, a, b) }, "f(?x)", "g(?x)", 1)
}

// P4.1: the errors of Kbo, in their order.
func TestKboErrors(t *testing.T) {
	w := []int{1, 1, 1, 0}
	a, c, g := must(t, "a:any"), must(t, "f(?x, c:any)"), must(t, "f(g(a:any, ?x))")
	check := func(what string, l []string, w []int, u, v api.Term, want api.Errno) {
		t.Helper()
		if n, e := order.Kbo(l, w, u, v); n != 0 || e != want {
			t.Errorf("%s: %d, %v, not %v", what, n, e, want)
		}
	}
	for what, p := range badWeights() {
		check(what, p.l, p.w, a, a, p.want)
		check(what+" before the terms", p.l, p.w, api.Term{}, api.Term{}, p.want)
		check(what+" before other names", p.l, p.w, c, g, p.want)
	}
	for what, p := range invalid() {
		check(what, letters, w, p.t, a, p.want)
		check(what, letters, w, a, p.t, p.want)
		check(what+" before another name", letters, w, p.t, c, p.want)
		check(what+" behind another name", letters, w, c, p.t, p.want)
		check(what+" behind the weight 0", letters, w, g, p.t, p.want)
		for other, q := range invalid() {
			check(what+" before "+other, letters, w, p.t, q.t, p.want)
		}
	}
	check("another name", letters, w, c, a, api.ErrNotFound)
	check("another name", letters, w, a, c, api.ErrNotFound)
	check("another name behind the weight 0", letters, w, g, c, api.ErrNotFound)
	check("another name before the weight 0", letters, w, c, g, api.ErrNotFound)
	check("another name beside the weight 0", letters, w, a, must(t, "f(g(), c())"), api.ErrNotFound)
	for _, s := range []string{"g:any", "g:key", "g()", "g(a:any, ?x)", "f(a:any, g(?x, ?x))", "g(g(g:any))"} {
		x := must(t, s)
		check(s, letters, w, x, a, api.ErrArity)
		check(s, letters, w, a, x, api.ErrArity)
		check(s, letters, w, x, x, api.ErrArity)
		if n, e := order.Kbo(letters, []int{1, 1, 1, 1}, x, x); n != 0 || e != api.OK {
			t.Errorf("%s with the weight 1: %d, %v", s, n, e)
		}
	}
	check("too many kids before another name", letters, w, app("g", slices.Repeat([]api.Term{a}, 9)...), c, api.ErrTooLarge)
}

// weights returns admissible weights for the letters, small ones so that terms
// often have the same.
func weights(r *rand.Rand) []int {
	w := []int{1 + r.IntN(2), 1 + r.IntN(2), 1 + r.IntN(2), r.IntN(3)}
	if r.IntN(3) == 0 {
		w[3] = 0
	}
	return w
}

// poolFor returns a pool whose terms can be compared with the weights.
func poolFor(w []int, variables bool) pool {
	switch {
	case w[3] == 0 && variables:
		return careful
	case w[3] == 0:
		return carefulGround
	case variables:
		return plain
	}
	return ground
}

// P4.1: Kbo is what the definition says.
func TestKboByDefinition(t *testing.T) {
	r := rand.New(rand.NewPCG(13, 14))
	seen := map[int]int{}
	for range 60000 {
		w := weights(r)
		p := poolFor(w, r.IntN(3) > 0)
		a := p.random(r, 4)
		b := pick(r, []api.Term{p.random(r, 4), p.near(r, a)})
		want := refWeighted(letters, w).result(a, b)
		seen[want]++
		before := show(a) + show(b) + show(w)
		if n, e := order.Kbo(letters, w, a, b); n != want || e != api.OK {
			t.Fatalf("%v, %s, %s: %d, %v, not %d", w, show(a), show(b), n, e, want)
		}
		if show(a)+show(b)+show(w) != before {
			t.Fatalf("changed: %s", before)
		}
	}
	for want, n := range seen {
		if n < 1000 {
			t.Errorf("%d cases with %d only", n, want)
		}
	}
}

// P4.1: Kbo has a result for terms as large as can be.
func TestKboLimits(t *testing.T) {
	l, w := append(names(39), "h"), append(slices.Repeat([]int{1000}, 39), 0)
	h := append(slices.Repeat([]int{1000}, 39), 1000)
	for what, c := range map[string]struct {
		w    []int
		a, b api.Term
		want int
	}{
		"400 nodes, equal": {h, sized(400), sized(400), 0},
		"400 nodes":        {h, sized(400), sized(399), 1},
		"40 levels":        {w, tower("n1", 40, atom("n1", 0)), tower("n1", 40, atom("n0", 0)), 1},
		"the weight 0":     {w, tower("h", 40, variable("x", 0)), variable("x", 0), 1},
		"39 and 40 levels": {w, tower("h", 39, variable("x", 0)), tower("h", 40, variable("x", 0)), -1},
		"not comparable":   {w, tower("n1", 40, variable("x", 0)), variable("y", 0), 2},
	} {
		if n, e := order.Kbo(l, c.w, c.a, c.b); n != c.want || e != api.OK {
			t.Errorf("%s: %d, %v, not %d", what, n, e, c.want)
		}
	}
}
