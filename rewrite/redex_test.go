package rewrite_test

import (
	"math/rand/v2"
	"slices"
	"testing"

	"sealring/api"
	"sealring/rewrite"
	"sealring/term"
)

// P5.1: the redexes of a term, by position in preorder, then by rule; it is in
// normal form if there are none.
func TestRedexes(t *testing.T) {
	example := []string{"g(g(?x))", "?x", "f(h(), ?x)", "?x"}
	for _, c := range []struct {
		rules []string
		t     string
		want  []api.Redex
	}{
		{example, "f(h(), g(g(a:any)))", []api.Redex{redex(1), redex(0, 1)}},
		{example, "g(g(g(?x)))", []api.Redex{redex(0), redex(0, 0)}},
		{example, "g(g())", nil},
		{example, "g(a:any)", nil},
		{example, "f(h(), h(), h())", nil},
		{example, "f(?x, ?y)", nil},
		{example, "?x", nil},
		{example, "h()", nil},
		{nil, "f(h(), g(g(a:any)))", nil},

		// the same position, several rules; several positions
		{[]string{"f(?x, ?x)", "?x", "f(?x, ?y)", "f(?y, ?x)"}, "f(f(a:any, a:any), b:any)",
			[]api.Redex{redex(1), redex(0, 0), redex(1, 0)}},
		{[]string{"f(?x, ?y)", "?x", "a:any", "b:any", "f(?x, ?x)", "?x"}, "f(a:any, a:any)",
			[]api.Redex{redex(0), redex(2), redex(1, 0), redex(1, 1)}},
		{[]string{"a:any", "a:any", "a:any", "a:any"}, "g(f(b:any, h(a:any)), a:any)",
			[]api.Redex{redex(0, 0, 1, 0), redex(1, 0, 1, 0), redex(0, 1), redex(1, 1)}},

		// atoms and applications are told apart by name, kind, sort and kids
		{[]string{"a:any", "b:any"}, "f(a:key, a(), ?a, A:any, a:any)", []api.Redex{redex(0, 4)}},
		{[]string{"a()", "b:any"}, "f(a:any, a(a()), ?a, A())", []api.Redex{redex(0, 1, 0)}},
		{[]string{"g(?x, a:key)", "b:any"}, "f(g(?x, a:nonce), g(a:key, ?x), g(a:key), g(?y, a:key))", []api.Redex{redex(0, 3)}},

		// sorts of variables
		{[]string{"f(?x:nonce, ?y)", "?y"}, "f(n:nonce, h())", []api.Redex{redex(0)}},
		{[]string{"f(?x:nonce, ?y)", "?y"}, "f(?n:nonce, h())", []api.Redex{redex(0)}},
		{[]string{"f(?x:nonce, ?y)", "?y"}, "f(n:any, h())", nil},
		{[]string{"f(?x:nonce, ?y)", "?y"}, "f(n:key, h())", nil},
		{[]string{"f(?x:nonce, ?y)", "?y"}, "f(?x, h())", nil},
		{[]string{"f(?x:nonce, ?y)", "?y"}, "f(h(), h())", nil},
		{[]string{"f(?x, ?x:key)", "?x"}, "f(a:any, b:key)", []api.Redex{redex(0)}},

		// variables of the term stand for nothing, whatever their names are
		{[]string{"f(?x, ?x)", "?x"}, "f(?x, ?y)", nil},
		{[]string{"f(?x, ?x)", "?x"}, "f(?y, ?y)", []api.Redex{redex(0)}},
		{[]string{"f(?x, g(?x))", "?x"}, "f(g(?x), g(g(?x)))", []api.Redex{redex(0)}},
		{[]string{"f(?x, ?y)", "?x"}, "f(?y, ?x)", []api.Redex{redex(0)}},
		{[]string{"f(g(?x))", "?x"}, "f(?x)", nil},
	} {
		l, x := rules(t, c.rules...), must(t, c.t)
		if got := rewrite.Redexes(l, x); !sameTrace(got, c.want) {
			t.Errorf("%v, %s: %v", c.rules, c.t, got)
		}
		if rewrite.IsNormal(l, x) != (len(c.want) == 0) {
			t.Errorf("%v, %s: IsNormal", c.rules, c.t)
		}
	}
}

// P5.1: without valid rules and a valid term there are no redexes, and no
// normal form.
func TestRedexesOfInvalid(t *testing.T) {
	a, good := must(t, "g(f(a:any))"), rules(t, "f(?x)", "?x")
	for what, c := range invalidRules(t) {
		for _, x := range []api.Term{a, must(t, "b:any")} {
			if l := rewrite.Redexes(c.l, x); len(l) != 0 || rewrite.IsNormal(c.l, x) {
				t.Errorf("%s, %s: %v, or normal", what, text(x), l)
			}
		}
	}
	for what, c := range invalid() {
		for _, l := range [][]api.Rule{nil, good, rules(t, "f(?x, ?y)", "?x", "a:any", "b:any")} {
			if found := rewrite.Redexes(l, c.t); len(found) != 0 || rewrite.IsNormal(l, c.t) {
				t.Errorf("%s: %v, or normal", what, found)
			}
		}
	}
}

// P5.1: Redexes and IsNormal do what the definition says.
func TestRedexesByDefinition(t *testing.T) {
	r := rand.New(rand.NewPCG(1, 2))
	normal := 0
	for range 20000 {
		l := few.rules(r, 4)
		x := few.redexful(r, l, 4)
		want := refRedexes(l, x)
		if got := rewrite.Redexes(l, x); !sameTrace(got, want) {
			t.Fatalf("%s, %s: %v, not %v", showRules(l), text(x), got, want)
		}
		if rewrite.IsNormal(l, x) != (len(want) == 0) {
			t.Fatalf("%s, %s: IsNormal", showRules(l), text(x))
		}
		if len(want) == 0 {
			normal++
		}
	}
	if normal < 1000 || normal > 19000 {
		t.Errorf("%d normal forms", normal)
	}
}

// P5.1: what a redex leads to.
func TestApply(t *testing.T) {
	for _, c := range []struct {
		rules []string
		t     string
		r     api.Redex
		want  string
	}{
		{[]string{"f(h(), ?x)", "?x"}, "f(h(), a:any)", redex(0), "a:any"},
		{[]string{"a:any", "b:any"}, "g(f(a:any, a:any))", redex(0, 0, 1), "g(f(a:any, b:any))"},
		{[]string{"f(?x, ?x)", "?x", "f(?x, ?y)", "f(?y, ?x)"}, "f(f(a:any, a:any), b:any)", redex(1), "f(b:any, f(a:any, a:any))"},
		{[]string{"f(?x, ?x)", "?x", "f(?x, ?y)", "f(?y, ?x)"}, "f(f(a:any, a:any), b:any)", redex(0, 0), "f(a:any, b:any)"},
		{[]string{"f(?x, ?x)", "?x", "f(?x, ?y)", "f(?y, ?x)"}, "f(f(a:any, a:any), b:any)", redex(1, 0), "f(f(a:any, a:any), b:any)"},
		{[]string{"g(?x)", "f(?x, g(?x), ?x)"}, "g(h(a:any))", redex(0), "f(h(a:any), g(h(a:any)), h(a:any))"},
		{[]string{"g(?x)", "c:key"}, "f(g(h(a:any)), g(?x))", redex(0, 0), "f(c:key, g(?x))"},
		{[]string{"g(?x)", "h()"}, "g(a:any)", redex(0), "h()"},

		// variables of the term are not those of the rule
		{[]string{"f(?x, ?y)", "g(?x)"}, "f(?y, ?x)", redex(0), "g(?y)"},
		{[]string{"f(?x, ?y)", "f(?y, ?x)"}, "f(?y, ?x)", redex(0), "f(?x, ?y)"},
		{[]string{"f(?x, ?y)", "f(?y, ?x)"}, "f(g(?y), h(?x))", redex(0), "f(h(?x), g(?y))"},
		{[]string{"f(?x, ?y)", "f(?y, ?x)"}, "f(?x, ?x)", redex(0), "f(?x, ?x)"},
		{[]string{"f(?x, ?y)", "f(?y, ?x)"}, "f(?x, g(?x))", redex(0), "f(g(?x), ?x)"},
		{[]string{"f(?x, ?y)", "g(?x, ?y, ?x)"}, "f(?x, ?y)", redex(0), "g(?x, ?y, ?x)"},
		{[]string{"f(?x, ?x:key)", "f(?x:key, ?x)"}, "f(?x:key, ?k:key)", redex(0), "f(?k:key, ?x:key)"},
		{[]string{"f(?z, ?x:key, ?x)", "f(?x:key, ?x, ?z)"}, "f(?x, ?x:key, ?z)", redex(0), "f(?x:key, ?z, ?x)"},
	} {
		u, e := rewrite.Apply(rules(t, c.rules...), must(t, c.t), c.r)
		if e != api.OK || text(u) != c.want {
			t.Errorf("%v, %s, %v: %s, %v", c.rules, c.t, c.r, text(u), e)
		}
	}
}

// P5.1: the errors of Apply, in order; the term is empty then.
func TestApplyErrors(t *testing.T) {
	good, x := rules(t, "f(?x, ?x)", "?x", "g(?x)", "f(?x, ?x)"), must(t, "f(f(a:any, b:any), g(c:any))")
	check := func(what string, l []api.Rule, u api.Term, r api.Redex, want api.Errno) {
		t.Helper()
		if v, e := rewrite.Apply(l, u, r); e != want || !same(v, api.Term{}) {
			t.Errorf("%s: %s, %v, not %v", what, show(v), e, want)
		}
	}
	for what, c := range invalidRules(t) {
		check(what, c.l, x, redex(0), c.want)
		check(what+", and the term", c.l, atom("", api.SortAny), redex(-1), c.want)
	}
	for what, c := range invalid() {
		check(what, good, c.t, redex(0), c.want)
		check(what+", and the redex", good, c.t, redex(7, 7), c.want)
		check(what+", and no rules", nil, c.t, redex(0), c.want)
	}
	for what, r := range map[string]api.Redex{
		"rule -1":                 redex(-1),
		"rule 2":                  redex(2),
		"a great number":          redex(1<<62, 1),
		"rule 2, no redex":        redex(2, 0, 0),
		"no such kid":             redex(0, 2),
		"kid -1":                  redex(0, -1),
		"no kids":                 redex(1, 0, 0, 0),
		"no kids, a great number": redex(1, 1, 0, 1<<62),
	} {
		check(what, good, x, r, api.ErrRange)
	}
	check("no rules", nil, x, redex(0), api.ErrRange)
	for what, r := range map[string]api.Redex{
		"kids that differ":  redex(0, 0),
		"another symbol":    redex(1, 0),
		"another one, f":    redex(0, 1),
		"an atom":           redex(1, 0, 0),
		"the whole term":    redex(0),
		"the whole term, g": redex(1),
	} {
		check(what, good, x, r, api.ErrClash)
	}
}

// P5.1: Apply returns the error of a result that is too large or too deep as a
// whole, and no other result.
func TestApplyTooLarge(t *testing.T) {
	double, deeper := rules(t, "g(?x)", "f(?x, ?x)"), rules(t, "a:any", "g(a:any)")
	a := atom("a", api.SortAny)
	for what, c := range map[string]struct {
		l    []api.Rule
		t    api.Term
		r    api.Redex
		want api.Errno
	}{
		"399 nodes":             {double, app("g", sized(199)), redex(0), api.OK},
		"401 nodes":             {double, app("g", sized(200)), redex(0), api.ErrTooLarge},
		"400 nodes, below":      {double, app("h", app("g", sized(199))), redex(0, 0), api.OK},
		"401 nodes, below":      {double, app("h", app("g", sized(199)), a), redex(0, 0), api.ErrTooLarge},
		"40 levels":             {deeper, tower(39, a), redex(0, make([]int, 38)...), api.OK},
		"41 levels":             {deeper, tower(40, a), redex(0, make([]int, 39)...), api.ErrTooLarge},
		"40 levels, beside":     {deeper, app("h", a, tower(39, a)), redex(0, 0), api.OK},
		"levels that disappear": {rules(t, "g(g(?x))", "?x"), tower(40, a), redex(0), api.OK},
		"far too many nodes":    {[]api.Rule{{Left: must(t, "g(?x)"), Right: tree(slices.Repeat([]api.Term{variable("x", 0)}, 344))}}, app("g", sized(399)), redex(0), api.ErrTooLarge},
	} {
		u, e := rewrite.Apply(c.l, c.t, c.r)
		if e != c.want || e != api.OK && !same(u, api.Term{}) || e == api.OK && term.Valid(u) != api.OK {
			t.Errorf("%s: %s, %v, not %v", what, text(u), e, c.want)
		}
	}
}

// P5.1: a left side may have more variables than valid substitutions bind.
func TestApplyManyVariables(t *testing.T) {
	x, a := many(variable, "x", 344), many(atom, "a", 344)
	l := []api.Rule{{Left: tree(x), Right: tree(reversed(x))}}
	if found := rewrite.Redexes(l, tree(a)); !sameTrace(found, []api.Redex{redex(0)}) {
		t.Errorf("%v", found)
	}
	if u, e := rewrite.Apply(l, tree(a), redex(0)); e != api.OK || !same(u, tree(reversed(a))) {
		t.Errorf("%s, %v", text(u), e)
	}
	if u, e := rewrite.Apply(l, tree(x), redex(0)); e != api.OK || !same(u, tree(reversed(x))) {
		t.Errorf("%s, %v", text(u), e)
	}
	l[0].Right = x[300]
	if u, trace, e := rewrite.Normal(l, tree(a), 1); e != api.OK || !same(u, a[300]) || len(trace) != 1 {
		t.Errorf("%s, %v, %v", text(u), trace, e)
	}
}

// P5.1: Apply does what the definition says, for redexes and other places.
func TestApplyByDefinition(t *testing.T) {
	r := rand.New(rand.NewPCG(3, 4))
	seen := map[api.Errno]int{}
	for range 4000 {
		l := few.rules(r, 4)
		x := few.redexful(r, l, 4)
		all := refRedexes(l, x)
		for _, p := range term.Positions(x) {
			for i := range l {
				want, e := api.Term{}, api.ErrClash
				if slices.ContainsFunc(all, func(r api.Redex) bool { return r.Rule == i && slices.Equal(r.Position, p) }) {
					want, e = refApply(l, x, redex(i, p...))
				}
				if u, f := rewrite.Apply(l, x, redex(i, p...)); f != e || !same(u, want) {
					t.Fatalf("%s, %s, %d at %v: %s, %v, not %s, %v", showRules(l), text(x), i, p, text(u), f, text(want), e)
				}
				seen[e]++
			}
		}
	}
	checkSeen(t, seen, 1000, api.OK, api.ErrClash)
}

// P5.1: equal arguments give equal results that share no memory with one
// another, within themselves, or with the arguments, which do not change.
func TestRedexesAndApplyShareNothing(t *testing.T) {
	l, x := rules(t, "f(?x, ?x)", "h(g(a:any), ?x, ?x)", "g(?x)", "g(?x)"), must(t, "h(f(g(a:any), g(a:any)), g(g(b:any)))")
	l[0].Right.Kids[0].Kids = slices.Grow(l[0].Right.Kids[0].Kids, 3)
	r := redex(0, 0)
	before := show(l) + show(x) + show(r)
	u, e := rewrite.Apply(l, x, r)
	v, f := rewrite.Apply(l, x, r)
	if e != api.OK || f != api.OK || !same(u, v) {
		t.Errorf("%s, %v, %s, %v", text(u), e, text(v), f)
	}
	apart(t, "Apply", slices.Concat(sides(l), []api.Term{x, u, v})...)
	m, n := rewrite.Redexes(l, x), rewrite.Redexes(l, x)
	if len(m) != 5 || !sameTrace(m, n) {
		t.Errorf("%v, %v", m, n)
	}
	apartRedexes(t, "Redexes", slices.Concat(m, n)...)
	if !rewrite.Check(l, x, []api.Redex{r}, u) || rewrite.IsNormal(l, x) || rewrite.Valid(l) != api.OK {
		t.Error("Check, IsNormal or Valid")
	}
	if show(l)+show(x)+show(r) != before {
		t.Error("an argument has changed")
	}
}

// P5.1: a variable that stays as it is shares no memory with that of the rule.
func TestApplyVariableSharesNothing(t *testing.T) {
	l, x := rules(t, "f(?x)", "g(?x)"), must(t, "f(?x)")
	l[0].Right.Kids[0].Kids = make([]api.Term, 0, 1)
	u, e := rewrite.Apply(l, x, redex(0))
	v, _, f := rewrite.Normal(l, x, 1)
	if e != api.OK || f != api.OK || text(u) != "g(?x)" || !same(u, v) {
		t.Errorf("%s, %v, %s, %v", text(u), e, text(v), f)
	}
	apart(t, "a variable", slices.Concat(sides(l), []api.Term{x, u, v})...)
}
