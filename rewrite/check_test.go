package rewrite_test

import (
	"math/rand/v2"
	"slices"
	"testing"

	"sealring/api"
	"sealring/rewrite"
	"sealring/term"
)

// P5.1: Check accepts the traces all of whose redexes can be applied, and that
// lead to the term; they need be no normal forms, and no first redexes.
func TestCheck(t *testing.T) {
	l := rules(t, "f(?x, ?x)", "?x", "f(?x, ?y)", "f(?y, ?x)", "g(?x)", "f(?x, h())")
	for what, c := range map[string]struct {
		t     string
		trace []api.Redex
		u     string
		want  bool
	}{
		"no steps":                   {"f(a:any, b:any)", nil, "f(a:any, b:any)", true},
		"no steps, empty":            {"?x", []api.Redex{}, "?x", true},
		"no steps, another term":     {"f(a:any, b:any)", nil, "f(b:any, a:any)", false},
		"no steps, another variable": {"?x", nil, "?y", false},
		"no steps, another sort":     {"a:any", nil, "a:key", false},
		"a step":                     {"f(a:any, b:any)", []api.Redex{redex(1)}, "f(b:any, a:any)", true},
		"a step, the old term":       {"f(a:any, b:any)", []api.Redex{redex(1)}, "f(a:any, b:any)", false},
		"two steps":                  {"f(a:any, b:any)", []api.Redex{redex(1), redex(1)}, "f(a:any, b:any)", true},
		"a step too many":            {"f(a:any, a:any)", []api.Redex{redex(0), redex(0)}, "a:any", false},
		"a step too few":             {"f(f(a:any, a:any), a:any)", []api.Redex{redex(0, 0)}, "a:any", false},
		"not the first redex":        {"f(g(a:any), g(a:any))", []api.Redex{redex(0)}, "g(a:any)", true},
		"not the least rule":         {"f(a:any, a:any)", []api.Redex{redex(1)}, "f(a:any, a:any)", true},
		"in a new part":              {"h(g(h()))", []api.Redex{redex(2, 0), redex(0, 0)}, "h(h())", true},
		"in another order":           {"h(g(h()))", []api.Redex{redex(0, 0), redex(2, 0)}, "h(h())", false},
		"in a part that is gone":     {"h(f(g(a:any), g(a:any)))", []api.Redex{redex(0, 0), redex(2, 0, 0)}, "h(g(f(a:any, h())))", false},
		"no redex":                   {"f(a:any, b:any)", []api.Redex{redex(0)}, "f(a:any, b:any)", false},
		"no redex at last":           {"f(a:any, b:any)", []api.Redex{redex(1), redex(0)}, "f(b:any, a:any)", false},
		"no redex at first":          {"f(a:any, b:any)", []api.Redex{redex(0), redex(1)}, "f(b:any, a:any)", false},
		"no position":                {"f(a:any, b:any)", []api.Redex{redex(1, 2)}, "f(a:any, b:any)", false},
		"position -1":                {"f(a:any, b:any)", []api.Redex{redex(1, -1)}, "f(a:any, b:any)", false},
		"no rule":                    {"f(a:any, b:any)", []api.Redex{redex(3)}, "f(a:any, b:any)", false},
		"rule -1":                    {"f(a:any, b:any)", []api.Redex{redex(-1)}, "f(a:any, b:any)", false},
	} {
		if rewrite.Check(l, must(t, c.t), c.trace, must(t, c.u)) != c.want {
			t.Errorf("%s: not %v", what, c.want)
		}
	}
}

// P5.1: Check accepts nothing without valid rules and terms, also in between.
func TestCheckInvalid(t *testing.T) {
	x, good := must(t, "f(a:any)"), rules(t, "f(?x)", "?x", "f(?x)", "f(?x)")
	for what, c := range invalidRules(t) {
		if rewrite.Check(c.l, x, nil, x) || rewrite.CheckJoin(c.l, x, x, api.Join{Term: x}) {
			t.Errorf("%s: accepted", what)
		}
		all := append(slices.Clone(good), c.l...)
		if rewrite.Check(all, x, []api.Redex{redex(1)}, x) {
			t.Errorf("%s: a step accepted", what)
		}
	}
	for what, c := range invalid() {
		if rewrite.Check(good, c.t, nil, c.t) || rewrite.Check(nil, c.t, nil, c.t) || rewrite.Check(good, c.t, nil, x) || rewrite.Check(good, x, nil, c.t) {
			t.Errorf("%s: accepted", what)
		}
		if rewrite.CheckJoin(good, c.t, c.t, api.Join{Term: c.t}) || rewrite.CheckJoin(good, x, c.t, api.Join{Term: x}) || rewrite.CheckJoin(good, x, x, api.Join{Term: c.t}) {
			t.Errorf("%s: a join accepted", what)
		}
	}
	// the term in the middle would be too large
	l, y := rules(t, "d(?x)", "f(?x, ?x)", "f(?x, ?x)", "a:any"), app("d", sized(200))
	if rewrite.Check(l, y, []api.Redex{redex(0), redex(1)}, must(t, "a:any")) {
		t.Error("a term that is too large: accepted")
	}
	y = app("d", sized(199))
	if !rewrite.Check(l, y, []api.Redex{redex(0), redex(1)}, must(t, "a:any")) {
		t.Error("399 nodes: not accepted")
	}
}

// P5.1: Check follows traces of any length.
func TestCheckLong(t *testing.T) {
	l, a, b := rules(t, "a:any", "b:any", "b:any", "a:any"), must(t, "a:any"), must(t, "b:any")
	var trace []api.Redex
	for i := range 5001 {
		trace = append(trace, redex(i%2))
	}
	if !rewrite.Check(l, a, trace, b) || rewrite.Check(l, a, trace, a) || rewrite.Check(l, b, trace, b) {
		t.Error("5001 steps")
	}
}

// P5.1: Check does what the definition says, for traces that are right, and
// for others.
func TestCheckByDefinition(t *testing.T) {
	r := rand.New(rand.NewPCG(7, 8))
	accepted := 0
	for range 20000 {
		l := few.rules(r, 3)
		x := few.redexful(r, l, 3)
		u, right := x, true
		var trace []api.Redex
		for range r.IntN(4) {
			all := refRedexes(l, u)
			next := redex(r.IntN(4)-1, pick(r, term.Positions(u))...)
			if len(all) > 0 && r.IntN(6) > 0 {
				next = pick(r, all)
			}
			trace = append(trace, next)
			if !slices.ContainsFunc(all, func(r api.Redex) bool { return sameTrace([]api.Redex{r}, []api.Redex{next}) }) {
				right = false
				break
			}
			v, e := refApply(l, u, next)
			if e != api.OK {
				right = false
				break
			}
			u = v
		}
		if rewrite.Check(l, x, trace, u) != right {
			t.Fatalf("%s, %s, %v, %s: not %v", showRules(l), text(x), trace, text(u), right)
		}
		other := few.redexful(r, l, 3)
		if rewrite.Check(l, x, trace, other) != (right && same(u, other)) {
			t.Fatalf("%s, %s, %v, %s", showRules(l), text(x), trace, text(other))
		}
		if right && len(trace) > 0 {
			accepted++
		}
	}
	if accepted < 2000 {
		t.Errorf("%d traces only", accepted)
	}
}

// P5.1: joins consist of the traces of Normal, and the common normal form.
func TestJoins(t *testing.T) {
	l := rules(t, "f(h(), ?x)", "?x", "f(?x, h())", "?x")
	for _, c := range []struct {
		t, u, want  string
		left, right []api.Redex
	}{
		{"f(h(), a:any)", "f(f(a:any, h()), h())", "a:any", []api.Redex{redex(0)}, []api.Redex{redex(1, 0), redex(1)}},
		{"f(h(), h())", "h()", "h()", []api.Redex{redex(0)}, nil},
		{"?x", "?x", "?x", nil, nil},
		{"f(?x, f(h(), ?y))", "f(f(?x, h()), ?y)", "f(?x, ?y)", []api.Redex{redex(0, 1)}, []api.Redex{redex(1, 0)}},
	} {
		x, y := must(t, c.t), must(t, c.u)
		fuel := max(len(c.left), len(c.right))
		j, e := rewrite.Joins(l, x, y, fuel)
		if e != api.OK || text(j.Term) != c.want || !sameTrace(j.Left, c.left) || !sameTrace(j.Right, c.right) {
			t.Errorf("%s, %s: %v, %v", c.t, c.u, j, e)
		}
		if !rewrite.CheckJoin(l, x, y, j) {
			t.Errorf("%s, %s: not accepted", c.t, c.u)
		}
		j, e = rewrite.Joins(l, y, x, fuel)
		if e != api.OK || text(j.Term) != c.want || !sameTrace(j.Left, c.right) || !sameTrace(j.Right, c.left) {
			t.Errorf("%s, %s: %v, %v", c.u, c.t, j, e)
		}
		if fuel == 0 {
			continue
		}
		if j, e := rewrite.Joins(l, x, y, fuel-1); e != api.ErrFuel || show(j) != show(api.Join{}) {
			t.Errorf("%s, %s with less fuel: %v, %v", c.t, c.u, j, e)
		}
	}
}

// P5.1: the errors of Joins, those of the first term before those of the
// second one, and then of the normal forms.
func TestJoinsErrors(t *testing.T) {
	l := rules(t, "g(?x)", "?x", "d(?x)", "f(?x, ?x)", "c:any", "c:any")
	large, endless, noName := app("d", sized(200)), must(t, "c:any"), atom("", api.SortAny)
	for what, c := range map[string]struct {
		t, u api.Term
		fuel int
		want api.Errno
	}{
		"different normal forms":     {must(t, "g(a:any)"), must(t, "g(b:any)"), 5, api.ErrClash},
		"different sorts":            {must(t, "a:any"), must(t, "a:key"), 0, api.ErrClash},
		"different variables":        {must(t, "g(?x)"), must(t, "g(?y)"), 1, api.ErrClash},
		"no fuel before not valid":   {endless, noName, 5, api.ErrFuel},
		"too large before no fuel":   {large, endless, 5, api.ErrTooLarge},
		"no fuel before too large":   {endless, large, 5, api.ErrFuel},
		"too large before not valid": {large, noName, 5, api.ErrTooLarge},
		"not valid before the other": {noName, large, 5, api.ErrSyntax},
		"fuel before not valid":      {must(t, "a:any"), noName, -1, api.ErrRange},
		"not valid before fuel":      {noName, must(t, "a:any"), -1, api.ErrSyntax},
		"too large, the second one":  {must(t, "a:any"), large, 5, api.ErrTooLarge},
		"no fuel, the second one":    {must(t, "a:any"), endless, 5, api.ErrFuel},
		"no fuel for the same":       {must(t, "g(a:any)"), must(t, "g(a:any)"), 0, api.ErrFuel},
		"no fuel before a clash":     {must(t, "a:any"), must(t, "g(b:any)"), 0, api.ErrFuel},
		"enough fuel for each":       {must(t, "g(a:any)"), must(t, "g(a:any)"), 1, api.OK},
		"the same from the start":    {must(t, "a:any"), must(t, "a:any"), 0, api.OK},
	} {
		j, e := rewrite.Joins(l, c.t, c.u, c.fuel)
		if e != c.want || e != api.OK && show(j) != show(api.Join{}) {
			t.Errorf("%s: %v, %v, not %v", what, j, e, c.want)
		}
	}
}

// P5.1: a join needs both traces, and the term to which both lead.
func TestCheckJoin(t *testing.T) {
	l := rules(t, "f(h(), ?x)", "?x", "f(?x, h())", "?x", "a:any", "b:any")
	x, y := must(t, "f(h(), a:any)"), must(t, "f(f(a:any, h()), h())")
	a, b := must(t, "a:any"), must(t, "b:any")
	left, right := []api.Redex{redex(0)}, []api.Redex{redex(1), redex(1)}
	also := func(l []api.Redex, r api.Redex) []api.Redex { return append(slices.Clone(l), r) }
	for what, c := range map[string]struct {
		t, u api.Term
		j    api.Join
		want bool
	}{
		"right":                         {x, y, api.Join{Left: left, Right: right, Term: a}, true},
		"further":                       {x, y, api.Join{Left: also(left, redex(2)), Right: also(right, redex(2)), Term: b}, true},
		"without steps":                 {x, x, api.Join{Term: x}, true},
		"one without steps":             {x, a, api.Join{Left: left, Term: a}, true},
		"the other one without steps":   {a, x, api.Join{Right: left, Term: a}, true},
		"another term":                  {x, y, api.Join{Left: left, Right: right, Term: b}, false},
		"no term":                       {x, y, api.Join{Left: left, Right: right}, false},
		"the terms exchanged":           {y, x, api.Join{Left: left, Right: right, Term: a}, false},
		"the traces exchanged":          {x, y, api.Join{Left: right, Right: left, Term: a}, false},
		"left is too short":             {x, y, api.Join{Right: right, Term: a}, false},
		"right is too short":            {x, y, api.Join{Left: left, Right: right[:1], Term: a}, false},
		"left leads further":            {x, y, api.Join{Left: also(left, redex(2)), Right: right, Term: a}, false},
		"right leads further":           {x, y, api.Join{Left: left, Right: also(right, redex(2)), Term: a}, false},
		"left leads further, its term":  {x, y, api.Join{Left: also(left, redex(2)), Right: right, Term: b}, false},
		"right leads further, its term": {x, y, api.Join{Left: left, Right: also(right, redex(2)), Term: b}, false},
		"no redex at the left":          {x, y, api.Join{Left: []api.Redex{redex(1)}, Right: right, Term: a}, false},
		"no redex at the right":         {x, y, api.Join{Left: left, Right: []api.Redex{redex(0), redex(1)}, Term: a}, false},
	} {
		if rewrite.CheckJoin(l, c.t, c.u, c.j) != c.want {
			t.Errorf("%s: not %v", what, c.want)
		}
	}
}

// P5.1: equal arguments give equal results that share no memory with one
// another, within themselves, or with the arguments, which do not change.
func TestJoinsShareNothing(t *testing.T) {
	l, x, y := rules(t, "g(?x)", "?x", "a:any", "h(k(b:any))"), must(t, "f(g(h(?x)), a:any)"), must(t, "f(h(g(?x)), g(a:any))")
	before := show(l) + show(x) + show(y)
	j, e := rewrite.Joins(l, x, y, 3)
	k, f := rewrite.Joins(l, x, y, 3)
	if e != api.OK || f != api.OK || show(j) != show(k) {
		t.Errorf("%v, %v, %v, %v", j, e, k, f)
	}
	made := show(j)
	if !rewrite.CheckJoin(l, x, y, j) || show(j) != made {
		t.Errorf("%v", j)
	}
	apart(t, "Joins", slices.Concat(sides(l), []api.Term{x, y, j.Term, k.Term})...)
	apartRedexes(t, "Joins", slices.Concat(j.Left, j.Right, k.Left, k.Right)...)
	if show(l)+show(x)+show(y) != before {
		t.Error("an argument has changed")
	}
}
