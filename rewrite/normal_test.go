package rewrite_test

import (
	"math/rand/v2"
	"slices"
	"testing"

	"sealring/api"
	"sealring/rewrite"
)

// P5.1: normal forms, and the redexes that lead to them: kids before their
// node, earlier kids first, and the least rule.
func TestNormal(t *testing.T) {
	example := []string{"g(g(?x))", "?x", "f(h(), ?x)", "?x"}
	for _, c := range []struct {
		rules   []string
		t, want string
		trace   []api.Redex
	}{
		{example, "f(h(), g(g(a:any)))", "a:any", []api.Redex{redex(0, 1), redex(1)}},
		{example, "g(g(g(?x)))", "g(?x)", []api.Redex{redex(0, 0)}},
		{example, "g(g(g(g(?x))))", "?x", []api.Redex{redex(0, 0, 0), redex(0)}},
		{example, "f(g(g(h())), g(g(b:any)))", "b:any", []api.Redex{redex(0, 0), redex(0, 1), redex(1)}},
		{example, "?x", "?x", nil},
		{example, "f(?x, g(a:any))", "f(?x, g(a:any))", nil},
		{nil, "f(h(), g(g(a:any)))", "f(h(), g(g(a:any)))", nil},

		// the least rule
		{[]string{"f(?x)", "a:any", "f(?x)", "b:any"}, "f(c:any)", "a:any", []api.Redex{redex(0)}},
		{[]string{"f(g(?x))", "a:any", "f(?x)", "b:any"}, "h(f(c:any), f(g(c:any)))", "h(b:any, a:any)", []api.Redex{redex(1, 0), redex(0, 1)}},
		{[]string{"f(?x)", "b:any", "f(g(?x))", "a:any"}, "f(g(c:any))", "b:any", []api.Redex{redex(0)}},
		// a kid comes first even if its rule is a greater one
		{[]string{"f(?x)", "b:any", "g(?x)", "a:any"}, "f(g(c:any))", "b:any", []api.Redex{redex(1, 0), redex(0)}},
		{[]string{"f(g(?x))", "a:any", "g(?x)", "?x"}, "f(g(g(c:any)))", "f(c:any)", []api.Redex{redex(1, 0, 0), redex(1, 0)}},

		// what a right side has brought comes next, its own kids first
		{[]string{"d(?x)", "f(s(?x), s(?x))", "s(?x)", "?x"}, "f(d(a:any), s(b:any))", "f(f(a:any, a:any), b:any)",
			[]api.Redex{redex(0, 0), redex(1, 0, 0), redex(1, 0, 1), redex(1, 1)}},
		{[]string{"a:any", "b:any", "b:any", "c:any"}, "f(a:any, a:any, b:any)", "f(c:any, c:any, c:any)",
			[]api.Redex{redex(0, 0), redex(1, 0), redex(0, 1), redex(1, 1), redex(1, 2)}},
		{[]string{"k(?x)", "g(g(?x))", "g(g(?x))", "?x"}, "k(a:any)", "a:any", []api.Redex{redex(0), redex(1)}},
		{[]string{"k(?x)", "g(?x)", "g(g(?x))", "?x"}, "g(k(a:any))", "a:any", []api.Redex{redex(0, 0), redex(1)}},
		{[]string{"k(?x)", "f(?x, ?x)", "f(a:any, ?x)", "?x"}, "k(k(a:any))", "a:any",
			[]api.Redex{redex(0, 0), redex(1, 0), redex(0), redex(1)}},

		// addition: s is the successor of a number, z is zero
		{[]string{"p(z(), ?y)", "?y", "p(s(?x), ?y)", "s(p(?x, ?y))"}, "p(s(s(z())), s(z()))", "s(s(s(z())))",
			[]api.Redex{redex(1), redex(1, 0), redex(0, 0, 0)}},
		// variables stay what they are, and do not become those of a rule
		{[]string{"f(?x, ?y)", "g(?y, ?x)"}, "f(?y, f(?x, ?y))", "g(g(?y, ?x), ?y)", []api.Redex{redex(0, 1), redex(0)}},
		{[]string{"f(?x:nonce, ?y)", "g(?y)", "g(g(?y))", "?y"}, "f(?n:nonce, f(m:nonce, f(m:any, ?x)))", "f(m:any, ?x)",
			[]api.Redex{redex(0, 1), redex(0), redex(1)}},
	} {
		l, x := rules(t, c.rules...), must(t, c.t)
		u, trace, e := rewrite.Normal(l, x, len(c.trace))
		if e != api.OK || text(u) != c.want || !sameTrace(trace, c.trace) {
			t.Errorf("%v, %s: %s, %v, %v", c.rules, c.t, text(u), trace, e)
		}
		if v, all, e := rewrite.Normal(l, x, 1000); e != api.OK || !same(u, v) || !sameTrace(trace, all) {
			t.Errorf("%v, %s with more fuel: %s, %v, %v", c.rules, c.t, text(v), all, e)
		}
		if len(c.trace) == 0 {
			continue
		}
		if v, some, e := rewrite.Normal(l, x, len(c.trace)-1); e != api.ErrFuel || !same(v, api.Term{}) || len(some) != 0 {
			t.Errorf("%v, %s with less fuel: %s, %v, %v", c.rules, c.t, text(v), some, e)
		}
	}
}

// P5.1: the errors of Normal and of Joins for their arguments, in order.
func TestNormalErrors(t *testing.T) {
	good, x := rules(t, "f(?x)", "?x"), must(t, "f(a:any)")
	check := func(what string, l []api.Rule, u api.Term, fuel int, want api.Errno) {
		t.Helper()
		if v, trace, e := rewrite.Normal(l, u, fuel); e != want || !same(v, api.Term{}) || len(trace) != 0 {
			t.Errorf("%s: %s, %v, %v, not %v", what, show(v), trace, e, want)
		}
		for _, pair := range [][2]api.Term{{u, x}, {x, u}, {u, u}} {
			j, e := rewrite.Joins(l, pair[0], pair[1], fuel)
			if e != want || !same(j.Term, api.Term{}) || len(j.Left)+len(j.Right) != 0 {
				t.Errorf("Joins, %s: %v, %v, not %v", what, j, e, want)
			}
		}
	}
	for what, c := range invalidRules(t) {
		check(what, c.l, x, 1, c.want)
		check(what+", and fuel", c.l, x, -1, c.want)
	}
	for what, c := range invalid() {
		check(what, good, c.t, 1000, c.want)
	}
	for _, fuel := range []int{-1, 1001, -1 << 62, 1 << 62} {
		check("fuel", good, x, fuel, api.ErrRange)
		check("fuel without rules", nil, x, fuel, api.ErrRange)
	}
	check("no fuel", good, x, 0, api.ErrFuel)

	// the rules come before the term, and this comes before the fuel
	noName := atom("", api.SortAny)
	for _, fuel := range []int{-1, 0, 1001} {
		if _, _, e := rewrite.Normal(slices.Repeat(good, 41), noName, fuel); e != api.ErrTooLarge {
			t.Errorf("41 rules, fuel %d: %v", fuel, e)
		}
		if _, _, e := rewrite.Normal(good, noName, fuel); e != api.ErrSyntax {
			t.Errorf("a term without a name, fuel %d: %v", fuel, e)
		}
	}
}

// P5.1: with fuel 0 and with fuel 1000; rules that do not end.
func TestNormalFuel(t *testing.T) {
	loop, grow := rules(t, "a:any", "a:any"), rules(t, "g(?x)", "g(g(?x))")
	for _, fuel := range []int{0, 1, 999, 1000} {
		if u, trace, e := rewrite.Normal(loop, must(t, "f(b:any, a:any)"), fuel); e != api.ErrFuel || !same(u, api.Term{}) || len(trace) != 0 {
			t.Errorf("fuel %d: %s, %v, %v", fuel, text(u), trace, e)
		}
		if u, trace, e := rewrite.Normal(loop, must(t, "f(b:any)"), fuel); e != api.OK || text(u) != "f(b:any)" || len(trace) != 0 {
			t.Errorf("fuel %d: %s, %v, %v", fuel, text(u), trace, e)
		}
	}
	// 38 steps lead from 2 to 40 levels, and the next one is too large, if
	// there is fuel for it
	for fuel, want := range map[int]api.Errno{0: api.ErrFuel, 37: api.ErrFuel, 38: api.ErrFuel, 39: api.ErrTooLarge, 1000: api.ErrTooLarge} {
		if u, trace, e := rewrite.Normal(grow, must(t, "g(a:any)"), fuel); e != want || !same(u, api.Term{}) || len(trace) != 0 {
			t.Errorf("fuel %d: %s, %v, %v, not %v", fuel, text(u), trace, e, want)
		}
	}
}

// P5.1: as many as 1000 redexes can be applied, and their terms may be as
// large as terms are.
func TestNormalLong(t *testing.T) {
	// each pair of a one and a zero that stand in the wrong order is exchanged
	l := rules(t, "c(one(), c(zero(), ?x))", "c(zero(), c(one(), ?x))")
	bits := func(first, second string, m, n int) api.Term {
		x := atom("end", api.SortAny)
		for range n {
			x = app("c", app(second), x)
		}
		for range m {
			x = app("c", app(first), x)
		}
		return x
	}
	for _, c := range []struct{ m, n int }{{1, 38}, {19, 20}, {38, 1}, {39, 0}} {
		u, trace, e := rewrite.Normal(l, bits("one", "zero", c.m, c.n), c.m*c.n)
		if e != api.OK || !same(u, bits("zero", "one", c.n, c.m)) || len(trace) != c.m*c.n {
			t.Errorf("%d, %d: %s, %d, %v", c.m, c.n, text(u), len(trace), e)
		}
	}
	// each of 300 atoms is changed 3 times: 900
	chain := rules(t, "a:any", "b:any", "b:any", "c:any", "c:any", "d:any")
	leaves := func(name string) api.Term { return tree(slices.Repeat([]api.Term{atom(name, api.SortAny)}, 300)) }
	u, trace, e := rewrite.Normal(chain, leaves("a"), 900)
	if e != api.OK || !same(u, leaves("d")) || len(trace) != 900 || !rewrite.Check(chain, leaves("a"), trace, u) {
		t.Errorf("%s, %d, %v", text(u), len(trace), e)
	}
	if _, _, e := rewrite.Normal(chain, leaves("a"), 899); e != api.ErrFuel {
		t.Errorf("%v", e)
	}
}

// P5.1: a step can be too large although the next one would make less of it.
func TestNormalTooLarge(t *testing.T) {
	l := rules(t, "d(?x)", "f(?x, ?x)", "e(?x)", "a:any")
	for size, want := range map[int]api.Errno{1: api.OK, 199: api.OK, 200: api.ErrTooLarge, 398: api.ErrTooLarge} {
		u, trace, e := rewrite.Normal(l, app("e", app("d", sized(size))), 10)
		if e != want {
			t.Errorf("%d: %v, not %v", size, e, want)
		}
		if e == api.OK && (text(u) != "a:any" || len(trace) != 2) || e != api.OK && (!same(u, api.Term{}) || len(trace) != 0) {
			t.Errorf("%d: %s, %v, %v", size, text(u), trace, e)
		}
	}
}

// P5.1: Normal takes the first redex, again and again, and has the errors of
// its steps.
func TestNormalByDefinition(t *testing.T) {
	r := rand.New(rand.NewPCG(5, 6))
	seen := map[api.Errno]int{}
	long := 0
	for range 50000 {
		l := few.rules(r, 4)
		x := few.redexful(r, l, 5)
		fuel := pick(r, []int{0, 1, 3, 10, 60})
		want, steps, e := refNormal(l, x, fuel)
		u, trace, f := rewrite.Normal(l, x, fuel)
		if f != e || !same(u, want) || !sameTrace(trace, steps) {
			t.Fatalf("%s, %s, %d: %s, %v, %v, not %s, %v, %v", showRules(l), text(x), fuel, text(u), trace, f, text(want), steps, e)
		}
		seen[e]++
		if len(steps) > 2 {
			long++
		}
	}
	checkSeen(t, seen, 50, api.ErrTooLarge)
	checkSeen(t, seen, 1000, api.OK, api.ErrFuel)
	if long < 200 {
		t.Errorf("%d long traces only", long)
	}
}

// P5.1: equal arguments give equal results that share no memory with one
// another, within themselves, or with the arguments, which do not change.
func TestNormalSharesNothing(t *testing.T) {
	l, x := rules(t, "d(?x)", "f(?x, ?x, h(k(a:any)))"), must(t, "f(d(d(g(b:any))), g(g(b:any)))")
	x.Kids[1].Kids[0].Kids = slices.Grow(x.Kids[1].Kids[0].Kids, 2)
	before := show(l) + show(x)
	u, trace, e := rewrite.Normal(l, x, 2)
	v, other, f := rewrite.Normal(l, x, 2)
	if e != api.OK || f != api.OK || !same(u, v) || !sameTrace(trace, other) || len(trace) != 2 {
		t.Errorf("%s, %v, %v, %s, %v, %v", text(u), trace, e, text(v), other, f)
	}
	apart(t, "Normal", slices.Concat(sides(l), []api.Term{x, u, v})...)
	apartRedexes(t, "Normal", slices.Concat(trace, other)...)
	// a term in normal form is returned as another one
	n, _, _ := rewrite.Normal(nil, x, 0)
	apart(t, "Normal", x, n)
	if show(l)+show(x) != before {
		t.Error("an argument has changed")
	}
}
