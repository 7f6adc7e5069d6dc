package order_test

import (
	"math/rand/v2"
	"slices"
	"testing"

	"sealring/api"
	"sealring/order"
	"sealring/term"
)

// checkBoth checks the result for two terms, and that for them exchanged.
func checkBoth(t *testing.T, compare func(a, b api.Term) (int, api.Errno), a, b string, want int) {
	t.Helper()
	x, y := must(t, a), must(t, b)
	if n, e := compare(x, y); n != want || e != api.OK {
		t.Errorf("%s, %s: %d, %v, not %d", a, b, n, e, want)
	}
	if want != 2 {
		want = -want
	}
	if n, e := compare(y, x); n != want || e != api.OK {
		t.Errorf("%s, %s: %d, %v, not %d", b, a, n, e, want)
	}
}

// P4.1: the path order, with the precedence a, b, f, g.
func TestLpo(t *testing.T) {
	for _, c := range []struct {
		a, b string
		want int
	}{
		// the examples of the document
		{"f(a:any)", "a:any", 1},
		{"g(a:any)", "f(f(a:any))", 1},
		{"f(?x)", "f(?y)", 2},
		{"f(b:any, a:any)", "f(a:any, b:any)", 1},

		// variables
		{"?x", "?x", 0},
		{"?x", "?y", 2},
		{"?x", "?x:key", 2},
		{"a:any", "?x", 2},
		{"g(a:any)", "?x", 2},
		{"f(?x)", "?x", 1},
		{"f(?x:key)", "?x", 2},
		{"a(?x)", "?x", 1},
		{"f(a:any, g(?x))", "?x", 1},
		{"f(?y, g(?x))", "?x", 1},

		// the first rule: a kid is the other term, or greater
		{"a(b:any)", "b:any", 1},
		{"a(f(b:any))", "b:any", 1},
		{"a(g(b:any))", "f(b:any, b:any)", 1},
		{"a(a:any, g(?x))", "f(?x)", 1},
		{"a(?x, b(?y))", "b(?y)", 1},
		{"f(g(a:any))", "g(a:any)", 1},
		{"f(?x, g(?y))", "g(?x)", 2},

		// the second rule: the symbol is stronger
		{"b:any", "a:any", 1},
		{"g(a:any)", "f(a:any, a:any, a:any)", 1},
		{"g(?x)", "f(?x, ?x)", 1},
		{"g(?x)", "f(?x, ?y)", 2},
		{"g(?x, ?y)", "f(?y, f(?x, a:any))", 1},
		{"f(b:any)", "a(g(b:any))", -1},
		{"g(a:any)", "f(g(b:any))", -1},
		{"g(b:any)", "f(g(a:any), g(a:any))", 1},
		{"g(?x)", "f(?x, g(?y))", 2},
		{"b:any", "a(a:any, a:any)", 1},

		// the symbols
		{"a:key", "a:any", 1},
		{"a:tag", "a:data", 1},
		{"b:any", "a:tag", 1},
		{"a()", "a:tag", 1},
		{"b:any", "a()", 1},
		{"a(a:any)", "a()", 1},
		{"f(b:any)", "f(a:any, a:any)", -1},
		{"f(a:any)", "f(a:any, a:any)", -1},
		{"f(g(a:any))", "f(a:any, b:any, f(a:any))", 1},

		// the third rule: kids decide
		{"f(?x, b:any)", "f(?x, a:any)", 1},
		{"f(b:any, ?x)", "f(a:any, ?x)", 1},
		{"f(b:any, ?x)", "f(a:any, ?y)", 2},
		{"f(?x, ?y)", "f(?y, ?x)", 2},
		{"f(b:any, a:any)", "f(a:any, f(b:any, a:any))", -1},
		{"f(b:any, a:any)", "f(a:any, f(a:any, b:any))", 1},
		{"f(f(?x, ?y), ?z)", "f(?x, f(?y, ?z))", 1},
		{"f(?x, f(?y, ?z))", "f(?y, f(?x, ?z))", 2},
		{"f(?x, g(?y))", "f(?y, ?x)", 2},
		{"f(?x, b:any, a:any)", "f(?x, a:any, b:any)", 1},
		{"g(?x, f(?y, ?z))", "f(g(?x, ?y), g(?x, ?z))", 1},
		{"g(f(?x, ?y), ?z)", "g(?x, g(?y, ?z))", 1},
		{"f(a:any, b:any)", "f(a:any, b:any)", 0},
		{"f(?x, g(?y, a:any))", "f(?x, g(?y, a:any))", 0},
		{"f()", "f()", 0},
	} {
		checkBoth(t, func(a, b api.Term) (int, api.Errno) { return order.Lpo(letters, a, b) }, c.a, c.b, c.want)
	}
}

// P4.1: the order of the names is that of the precedence, and nothing else.
func TestLpoPrecedence(t *testing.T) {
	for _, c := range []struct {
		l    []string
		want int
	}{
		{[]string{"a", "f", "g"}, -1},
		{[]string{"g", "f", "a"}, 1},
		{[]string{"f", "c", "a", "b", "g"}, -1},
		{append([]string{"g", "f", "a"}, names(37)...), 1},
		{append(append([]string{"f"}, names(37)...), "g", "a"), -1},
	} {
		checkBoth(t, func(a, b api.Term) (int, api.Errno) { return order.Lpo(c.l, a, b) }, "f(a:any, a:any)", "g(a:any)", c.want)
	}
	checkBoth(t, func(a, b api.Term) (int, api.Errno) { return order.Lpo(nil, a, b) }, "?x", "?x", 0)
	checkBoth(t, func(a, b api.Term) (int, api.Errno) { return order.Lpo(nil, a, b) }, "?a", "?b", 2)
}

// P4.1: the errors of Lpo, in their order.
func TestLpoErrors(t *testing.T) {
	a, c := atom("a", api.SortAny), app("f", variable("x", api.SortAny), atom("c", api.SortAny))
	check := func(what string, l []string, u, v api.Term, want api.Errno) {
		t.Helper()
		if n, e := order.Lpo(l, u, v); n != 0 || e != want {
			t.Errorf("%s: %d, %v, not %v", what, n, e, want)
		}
	}
	for what, p := range badLists() {
		check(what, p.l, a, a, p.want)
		check(what+" before the terms", p.l, api.Term{}, api.Term{}, p.want)
		check(what+" before other names", p.l, c, c, p.want)
	}
	for what, p := range invalid() {
		check(what, letters, p.t, a, p.want)
		check(what, letters, a, p.t, p.want)
		check(what+" before other names", letters, p.t, c, p.want)
		check(what+" behind other names", letters, c, p.t, p.want)
		for other, q := range invalid() {
			check(what+" before "+other, letters, p.t, q.t, p.want)
		}
	}
	check("other names", letters, c, a, api.ErrNotFound)
	check("other names", letters, a, c, api.ErrNotFound)
	check("equal terms", letters, c, c, api.ErrNotFound)
	check("an application", letters, a, app("f", app("A")), api.ErrNotFound)
	check("no names at all", nil, variable("x", api.SortAny), a, api.ErrNotFound)
}

// P4.1: Lpo is what the definition says.
func TestLpoByDefinition(t *testing.T) {
	r := rand.New(rand.NewPCG(5, 6))
	seen := map[int]int{}
	for range 60000 {
		p := pick(r, []pool{plain, plain, ground})
		a := p.random(r, 4)
		b := pick(r, []api.Term{p.random(r, 4), p.near(r, a)})
		want := refPath(letters).result(a, b)
		seen[want]++
		before := show(a) + show(b)
		if n, e := order.Lpo(letters, a, b); n != want || e != api.OK {
			t.Fatalf("%s, %s: %d, %v, not %d", show(a), show(b), n, e, want)
		}
		if show(a)+show(b) != before {
			t.Fatalf("changed: %s", before)
		}
	}
	for want, n := range seen {
		if n < 1000 {
			t.Errorf("%d cases with %d only", n, want)
		}
	}
}

// P4.1: Lpo has a result for terms as large as can be.
func TestLpoLimits(t *testing.T) {
	l := append(names(39), "h")
	for what, c := range map[string]struct {
		a, b api.Term
		want int
	}{
		"400 nodes, equal":  {sized(400), sized(400), 0},
		"400 nodes":         {sized(400), sized(399), 1},
		"40 levels":         {tower("n1", 40, atom("n1", 0)), tower("n1", 40, atom("n0", 0)), 1},
		"40 and 39 levels":  {tower("n1", 40, atom("n0", 0)), tower("n1", 39, atom("n0", 0)), 1},
		"a stronger symbol": {app("h", atom("n0", 0)), tower("n38", 40, atom("n0", 0)), 1},
		"not comparable":    {tower("n1", 40, variable("x", 0)), tower("h", 40, variable("y", 0)), 2},
		"variables":         {tower("h", 39, variable("x", 0)), tower("n1", 40, variable("x", 0)), 1},
	} {
		if n, e := order.Lpo(l, c.a, c.b); n != c.want || e != api.OK {
			t.Errorf("%s: %d, %v, not %d", what, n, e, c.want)
		}
	}
}

// layered returns a full tree with two kids at each node, whose leaves and
// symbols are chosen so that all parts have to be compared.
func layered(r *rand.Rand, levels int) api.Term {
	if levels == 1 {
		return atom(pick(r, letters), api.SortAny)
	}
	return app(letters[levels%2*2+r.IntN(2)], layered(r, levels-1), layered(r, levels-1))
}

// P4.1: the same parts are not compared again and again: without that, these
// terms would not come to an end.
func TestLpoEnds(t *testing.T) {
	r := rand.New(rand.NewPCG(7, 8))
	for range 300 {
		a, b := layered(r, 8), layered(r, 8)
		n, e := order.Lpo(letters, a, b)
		m, f := order.Lpo(letters, b, a)
		if n*m != -1 || e != api.OK || f != api.OK {
			t.Fatalf("%s, %s: %d, %d, %v, %v", show(a), show(b), n, m, e, f)
		}
	}
	x, y := tower("f", 40, variable("x", api.SortAny)), tower("f", 40, variable("y", api.SortAny))
	if n, e := order.Lpo(letters, x, y); n != 2 || e != api.OK {
		t.Errorf("two towers: %d, %v", n, e)
	}
}

// P4.1: the first rule that does not decrease.
func TestDecreasing(t *testing.T) {
	good := []api.Rule{
		rule(t, "g(?x, f(?y, ?z))", "f(g(?x, ?y), g(?x, ?z))"),
		rule(t, "g(a:any, ?x)", "?x"),
		rule(t, "f(f(?x, ?y), ?z)", "f(?x, f(?y, ?z))"),
	}
	a := must(t, "a:any")
	if i, ok := order.Decreasing(letters, nil); i != -1 || !ok {
		t.Errorf("no rules: %d, %v", i, ok)
	}
	if i, ok := order.Decreasing([]string{"a", "a"}, nil); i != -1 || !ok {
		t.Errorf("no rules, and no precedence: %d, %v", i, ok)
	}
	if i, ok := order.Decreasing(letters, good); i != -1 || !ok {
		t.Errorf("good rules: %d, %v", i, ok)
	}
	if i, ok := order.Decreasing(letters, slices.Repeat(good, 100)); i != -1 || !ok {
		t.Errorf("300 good rules: %d, %v", i, ok)
	}
	for what, bad := range map[string]api.Rule{
		"the right side is greater": rule(t, "a:any", "f(a:any)"),
		"equal sides":               rule(t, "f(?x)", "f(?x)"),
		"not comparable":            rule(t, "f(?x, ?y)", "f(?y, ?x)"),
		"a new variable":            rule(t, "g(?x)", "f(?x, ?y)"),
		"another name":              rule(t, "g(?x)", "c:any"),
		"another name on the left":  rule(t, "g(c(?x))", "?x"),
		"the left side is no term":  {Right: a},
		"the right side is no term": {Left: a},
	} {
		for at := range len(good) + 1 {
			rules := slices.Insert(slices.Clone(good), at, bad)
			if i, ok := order.Decreasing(letters, append(rules, bad)); i != at || ok {
				t.Errorf("%s at %d: %d, %v", what, at, i, ok)
			}
		}
	}
	for what, p := range badLists() {
		if i, ok := order.Decreasing(p.l, good[1:2]); i != 0 || ok {
			t.Errorf("%s: %d, %v", what, i, ok)
		}
	}
}

// P4.1: different terms, the least one first.
func TestSort(t *testing.T) {
	for _, c := range []struct{ list, want []string }{
		{nil, nil},
		{[]string{"a:any"}, []string{"a:any"}},
		{[]string{"a:any", "a:any", "a:any"}, []string{"a:any"}},
		{[]string{"g(a:any)", "f(f(a:any))", "b:any", "g(a:any)", "f(b:any)"}, []string{"b:any", "f(b:any)", "f(f(a:any))", "g(a:any)"}},
		{[]string{"a()", "a:tag", "a:key", "b:any", "a:any"}, []string{"a:any", "a:key", "a:tag", "a()", "b:any"}},
		{[]string{"f(b:any, a:any)", "f(b:any)", "f(a:any, b:any)", "f(a:any, a:any)"}, []string{"f(b:any)", "f(a:any, a:any)", "f(a:any, b:any)", "f(b:any, a:any)"}},
		{[]string{"f(g(a:any))", "g(f(a:any))", "g(a:any)"}, []string{"g(a:any)", "f(g(a:any))", "g(f(a:any))"}},
	} {
		l, e := order.Sort(letters, mustAll(t, c.list...))
		if e != api.OK || !sameList(l, mustAll(t, c.want...)) {
			t.Errorf("%v: %s, %v", c.list, show(l), e)
		}
	}
	if l, e := order.Sort([]string{"b", "a"}, mustAll(t, "a:any", "b:any")); e != api.OK || !sameList(l, mustAll(t, "b:any", "a:any")) {
		t.Errorf("another precedence: %s, %v", show(l), e)
	}
	if l, e := order.Sort(nil, nil); e != api.OK || len(l) != 0 {
		t.Errorf("nothing: %s, %v", show(l), e)
	}
}

// P4.1: the errors of Sort, in their order.
func TestSortErrors(t *testing.T) {
	a, x, c := must(t, "a:any"), must(t, "f(?x)"), must(t, "f(c:any)")
	check := func(what string, l []string, terms []api.Term, want api.Errno) {
		t.Helper()
		if m, e := order.Sort(l, terms); len(m) != 0 || e != want {
			t.Errorf("%s: %s, %v, not %v", what, show(m), e, want)
		}
	}
	for what, p := range badLists() {
		check(what, p.l, nil, p.want)
		check(what+" before 201 terms", p.l, make([]api.Term, 201), p.want)
		check(what+" before the terms", p.l, []api.Term{x, c, {}}, p.want)
	}
	check("201 terms", letters, slices.Repeat([]api.Term{a}, 201), api.ErrTooLarge)
	check("201 wrong terms", letters, make([]api.Term, 201), api.ErrTooLarge)
	check("200 wrong terms", letters, make([]api.Term, 200), api.ErrInvalid)
	for what, p := range invalid() {
		check(what, letters, []api.Term{a, p.t}, p.want)
		check(what+" before a variable", letters, []api.Term{a, p.t, x}, p.want)
		check(what+" behind a variable", letters, []api.Term{a, x, p.t}, api.ErrUnbound)
		check(what+" before another name", letters, []api.Term{p.t, c}, p.want)
		check(what+" behind another name", letters, []api.Term{c, p.t}, api.ErrNotFound)
	}
	check("a variable", letters, []api.Term{a, variable("a", api.SortAny)}, api.ErrUnbound)
	check("a variable before another name", letters, []api.Term{x, c}, api.ErrUnbound)
	check("a variable behind another name", letters, []api.Term{c, x}, api.ErrNotFound)
	check("a variable beside another name", letters, mustAll(t, "f(c:any, ?x)"), api.ErrUnbound)
	check("another name", letters, []api.Term{a, c, a}, api.ErrNotFound)
	check("no names", nil, []api.Term{a}, api.ErrNotFound)
}

// P4.1: Sort is what the definition says.
func TestSortByDefinition(t *testing.T) {
	r := rand.New(rand.NewPCG(9, 10))
	for range 300 {
		var l []api.Term
		for range r.IntN(20) {
			l = append(l, ground.random(r, 4))
			l = append(l, ground.near(r, pick(r, l)))
		}
		sorted, e := order.Sort(letters, l)
		if e != api.OK {
			t.Fatalf("%s: %v", show(l), e)
		}
		for i := range len(sorted) - 1 {
			if !refPath(letters)(sorted[i+1], sorted[i]) {
				t.Fatalf("%s is not greater than %s", show(sorted[i+1]), show(sorted[i]))
			}
		}
		for _, x := range l {
			if !slices.ContainsFunc(sorted, func(y api.Term) bool { return same(x, y) }) {
				t.Fatalf("%s is missing", show(x))
			}
		}
		for _, y := range sorted {
			if !slices.ContainsFunc(l, func(x api.Term) bool { return same(x, y) }) {
				t.Fatalf("%s is new", show(y))
			}
		}
	}
}

// P4.1: Sort has a result for 200 terms as large as can be, in whatever order
// they come.
func TestSortLimits(t *testing.T) {
	r := rand.New(rand.NewPCG(11, 12))
	l := slices.Repeat([]api.Term{sized(400)}, 200)
	if m, e := order.Sort([]string{"h"}, l); e != api.OK || !sameList(m, l[:1]) {
		t.Errorf("200 equal terms: %d, %v", len(m), e)
	}
	l = nil
	for range 200 {
		l = append(l, layered(r, 8))
	}
	m, e := order.Sort(letters, l)
	r.Shuffle(len(l), func(i, k int) { l[i], l[k] = l[k], l[i] })
	n, f := order.Sort(letters, l)
	if e != api.OK || f != api.OK || len(m) != 200 || !sameList(m, n) {
		t.Errorf("200 large terms: %d, %v, %d, %v", len(m), e, len(n), f)
	}
	for i := range len(m) - 1 {
		if o, e := order.Lpo(letters, m[i], m[i+1]); o != -1 || e != api.OK {
			t.Errorf("%d: %d, %v", i, o, e)
		}
	}
}

// P4.1: equal arguments give equal results that share no memory with one
// another, within themselves, or with the arguments, which do not change.
func TestSortSharesNothing(t *testing.T) {
	l := mustAll(t, "g(f(a:any, a:any))", "f(a:any, a:any)", "g(f(a:any, a:any))", "a()", "f(a(), f(a:any, a:any))")
	l[3].Kids = make([]api.Term, 0, 1)
	before := show(l)
	m, e := order.Sort(letters, l)
	n, f := order.Sort(letters, l)
	if e != api.OK || f != api.OK || len(m) != 4 || !sameList(m, n) {
		t.Errorf("%s, %s", show(m), show(n))
	}
	apart(t, "Sort", slices.Concat(l, m, n)...)
	if show(l) != before || term.Size(l[0]) != 4 {
		t.Errorf("changed: %s", show(l))
	}
}
