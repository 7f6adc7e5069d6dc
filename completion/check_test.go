package completion_test

import (
	"math/rand/v2"
	"slices"
	"testing"

	"sealring/api"
	"sealring/completion"
	"sealring/order"
	"sealring/rewrite"
	"sealring/term"
	"sealring/unify"
)

// twice are the equations of the example.
func twice(t *testing.T) []api.Rule {
	t.Helper()
	return rules(t, "g(g(?x))", "?x", "g(a:any)", "b:any")
}

// twicePrecedence is the precedence of the example.
var twicePrecedence = []string{"b", "a", "g"}

// twiceCompleted is the completion of the example.
func twiceCompleted(t *testing.T) api.Completion {
	t.Helper()
	a, b := must(t, "a:any"), must(t, "b:any")
	return api.Completion{
		Rules: append(twice(t), rules(t, "g(b:any)", "a:any")...),
		Proofs: [][]api.Equal{
			{step(t, 0, "?x")},
			{step(t, 1, "b:any")},
			{back(t, 1, "g(g(a:any))", 0), step(t, 0, "a:any")},
		},
		Joins: []api.Join{
			{Term: must(t, "g(?x#1)")},
			{Right: []api.Redex{redex(2)}, Term: a},
			{Right: []api.Redex{redex(1)}, Term: b},
		},
		Equations: []api.Join{
			{Left: []api.Redex{redex(0)}, Term: must(t, "?x")},
			{Left: []api.Redex{redex(1)}, Term: b},
		},
	}
}

// P7.1: Check accepts every completion that is right, not just those that
// Complete returns.
func TestCheckAccepts(t *testing.T) {
	for what, change := range map[string]func(c *api.Completion){
		"the example": func(c *api.Completion) {},
		"a proof with a detour": func(c *api.Completion) {
			c.Proofs[1] = []api.Equal{back(t, 0, "g(g(g(a:any)))"), step(t, 0, "g(a:any)"), step(t, 1, "b:any")}
		},
		"a detour below the root": func(c *api.Completion) {
			c.Proofs[1] = []api.Equal{back(t, 0, "g(g(g(a:any)))", 0), step(t, 0, "g(a:any)", 0), step(t, 1, "b:any")}
		},
		"to the left and back": func(c *api.Completion) {
			c.Proofs[1] = []api.Equal{step(t, 1, "b:any"), back(t, 1, "g(a:any)"), step(t, 1, "b:any")}
		},
		"a join behind more steps": func(c *api.Completion) {
			c.Joins[0] = api.Join{Left: nil, Right: nil, Term: must(t, "g(?x#1)")}
			c.Equations[1] = api.Join{Left: []api.Redex{redex(1)}, Right: []api.Redex{}, Term: must(t, "b:any")}
		},
		"no right side, but names": func(c *api.Completion) {
			c.Rules[0] = rules(t, "g(g(?y))", "?y")[0]
			c.Proofs[0] = []api.Equal{step(t, 0, "?y")}
			c.Joins[0].Term = must(t, "g(?y#1)")
		},
		"a rule more": func(c *api.Completion) {
			c.Rules = append(c.Rules, rules(t, "g(g(g(?x)))", "g(?x)")...)
			c.Proofs = append(c.Proofs, []api.Equal{step(t, 0, "g(?x)")})
			joins, _, e := completion.Confluent(c.Rules, 10)
			if e != api.OK || len(joins) < 6 {
				t.Fatalf("%v, %v", joins, e)
			}
			c.Joins = joins
		},
	} {
		c := twiceCompleted(t)
		change(&c)
		before := show(c) + show(twice(t))
		if !completion.Check(twice(t), twicePrecedence, c) || !refCheck(twice(t), twicePrecedence, c) {
			t.Errorf("%s: not accepted", what)
		}
		if !completion.Check(twice(t), []string{"x", "b", "f", "a", "g", "c"}, c) {
			t.Errorf("%s: not accepted with more names", what)
		}
		if show(c)+show(twice(t)) != before {
			t.Errorf("%s: an argument has changed", what)
		}
	}
	if !completion.Check(nil, nil, api.Completion{}) || !completion.Check(nil, names, api.Completion{Rules: []api.Rule{}, Joins: []api.Join{}}) {
		t.Error("nothing at all: not accepted")
	}
}

// P7.1: each part of a completion can be wrong.
func TestCheckRefuses(t *testing.T) {
	for what, change := range map[string]func(c *api.Completion){
		"no rules":             func(c *api.Completion) { c.Rules = nil },
		"a rule is missing":    func(c *api.Completion) { c.Rules = c.Rules[:2] },
		"a rule turned":        func(c *api.Completion) { c.Rules[1].Left, c.Rules[1].Right = c.Rules[1].Right, c.Rules[1].Left },
		"another left side":    func(c *api.Completion) { c.Rules[2].Left = must(t, "g(g(b:any))") },
		"another right side":   func(c *api.Completion) { c.Rules[2].Right = must(t, "b:any") },
		"an unknown":           func(c *api.Completion) { c.Rules[0].Right = must(t, "?y") },
		"a sort of a variable": func(c *api.Completion) { c.Rules[0] = rules(t, "g(g(?x:key))", "?x:key")[0] },
		"no proofs":            func(c *api.Completion) { c.Proofs = nil },
		"a proof is missing":   func(c *api.Completion) { c.Proofs = c.Proofs[:2] },
		"a proof too many":     func(c *api.Completion) { c.Proofs = append(c.Proofs, nil) },
		"an empty proof":       func(c *api.Completion) { c.Proofs[2] = nil },
		"the first step only":  func(c *api.Completion) { c.Proofs[2] = c.Proofs[2][:1] },
		"the second step only": func(c *api.Completion) { c.Proofs[2] = c.Proofs[2][1:] },
		"a step too many":      func(c *api.Completion) { c.Proofs[2] = append(c.Proofs[2], back(t, 0, "g(g(a:any))")) },
		"a direction":          func(c *api.Completion) { c.Proofs[2][0].Back = false },
		"another direction":    func(c *api.Completion) { c.Proofs[2][1].Back = true },
		"a position":           func(c *api.Completion) { c.Proofs[2][0].Position = nil },
		"a position too deep":  func(c *api.Completion) { c.Proofs[2][0].Position = []int{0, 0} },
		"a position of none":   func(c *api.Completion) { c.Proofs[2][0].Position = []int{1} },
		"a position -1":        func(c *api.Completion) { c.Proofs[2][0].Position = []int{-1} },
		"another equation":     func(c *api.Completion) { c.Proofs[2][0].Equation = 0 },
		"equation 2":           func(c *api.Completion) { c.Proofs[2][0].Equation = 2 },
		"equation -1":          func(c *api.Completion) { c.Proofs[2][0].Equation = -1 },
		"a term in between":    func(c *api.Completion) { c.Proofs[2][0].Term = must(t, "g(g(b:any))") },
		"no term in between":   func(c *api.Completion) { c.Proofs[2][0].Term = api.Term{} },
		"the proofs exchanged": func(c *api.Completion) { c.Proofs[0], c.Proofs[1] = c.Proofs[1], c.Proofs[0] },
		"no joins":             func(c *api.Completion) { c.Joins = nil },
		"a join is missing":    func(c *api.Completion) { c.Joins = c.Joins[:2] },
		"a join too many":      func(c *api.Completion) { c.Joins = append(c.Joins, c.Joins[2]) },
		"a join is wrong":      func(c *api.Completion) { c.Joins[1].Right = nil },
		"the joins exchanged":  func(c *api.Completion) { c.Joins[1], c.Joins[2] = c.Joins[2], c.Joins[1] },
		"no equations":         func(c *api.Completion) { c.Equations = nil },
		"one equation":         func(c *api.Completion) { c.Equations = c.Equations[:1] },
		"three equations":      func(c *api.Completion) { c.Equations = append(c.Equations, c.Equations[1]) },
		"an equation is wrong": func(c *api.Completion) { c.Equations[1].Left = nil },
		"another end":          func(c *api.Completion) { c.Equations[1].Term = must(t, "a:any") },
		"equations exchanged":  func(c *api.Completion) { c.Equations[0], c.Equations[1] = c.Equations[1], c.Equations[0] },
		"not confluent": func(c *api.Completion) {
			c.Rules, c.Proofs, c.Joins = c.Rules[:2], c.Proofs[:2], c.Joins[:2]
		},
		"an equation not joined": func(c *api.Completion) {
			c.Rules, c.Proofs, c.Joins = c.Rules[:1], c.Proofs[:1], c.Joins[:1]
		},
	} {
		c := twiceCompleted(t)
		change(&c)
		if completion.Check(twice(t), twicePrecedence, c) || refCheck(twice(t), twicePrecedence, c) {
			t.Errorf("%s: accepted", what)
		}
	}
}

// P7.1: a completion is right for equations and a precedence.
func TestCheckOtherArguments(t *testing.T) {
	c := twiceCompleted(t)
	for what, l := range map[string][]string{
		"none":           nil,
		"a name too few": {"b", "a"},
		"another order":  {"a", "g", "b"},
		"a name twice":   {"b", "a", "g", "b"},
		"a wrong name":   {"b", "a", "g", ""},
		"too many names": append(slices.Clone(twicePrecedence), manyNames(38)...),
	} {
		if completion.Check(twice(t), l, c) {
			t.Errorf("%s: accepted", what)
		}
	}
	if !completion.Check(twice(t), append(slices.Clone(twicePrecedence), manyNames(37)...), c) {
		t.Error("40 names: not accepted")
	}
	for what, q := range map[string][]api.Rule{
		"none":             nil,
		"one":              twice(t)[:1],
		"three":            append(twice(t), rules(t, "g(b:any)", "a:any")...),
		"exchanged":        {twice(t)[1], twice(t)[0]},
		"others":           rules(t, "g(g(?x))", "?x", "g(a:any)", "a:any"),
		"more special":     rules(t, "g(g(a:any))", "a:any", "g(a:any)", "b:any"),
		"a step less":      rules(t, "g(g(?x))", "?x", "b:any", "b:any"),
		"turned":           rules(t, "g(g(?x))", "?x", "b:any", "g(a:any)"),
		"sorts":            rules(t, "g(g(?x:key))", "?x:key", "g(a:any)", "b:any"),
		"variables though": rules(t, "g(g(?y))", "?y", "g(a:any)", "b:any"),
	} {
		if completion.Check(q, twicePrecedence, c) {
			t.Errorf("%s: accepted", what)
		}
	}
}

func manyNames(n int) []string {
	var l []string
	for _, x := range many(atom, "n", n) {
		l = append(l, x.Name)
	}
	return l
}

// P7.1: equations and rules that are not right are never accepted.
func TestCheckInvalid(t *testing.T) {
	for what, c := range invalidEquations(t) {
		// without rules, an equation joins if its sides are equal
		var joins []api.Join
		for i := range c.l {
			c.l[i].Right = c.l[i].Left
			joins = append(joins, api.Join{Term: c.l[i].Left})
		}
		if want := refEquations(c.l); completion.Check(c.l, names, api.Completion{Equations: joins}) != want {
			t.Errorf("%s: not %v", what, want)
		}
	}
	one := rules(t, "f(?x)", "?x")
	for n, want := range map[int]bool{40: true, 41: false} {
		q := slices.Repeat(one, n)
		joins := slices.Repeat([]api.Join{{Left: []api.Redex{redex(0)}, Term: must(t, "?x")}}, n)
		c := api.Completion{Rules: one, Proofs: [][]api.Equal{{step(t, n-1, "?x")}}, Equations: joins}
		if completion.Check(q, names, c) != want {
			t.Errorf("%d equations: not %v", n, want)
		}
	}
	for what, c := range invalidRules(t) {
		if completion.Check(nil, names, api.Completion{Rules: c.l, Proofs: make([][]api.Equal, len(c.l))}) {
			t.Errorf("%s: accepted", what)
		}
	}
	sort := rules(t, "f(a:any, b:any)", "a:any", "f(?x:key)", "?x:key")
	joins := []api.Join{{Left: []api.Redex{redex(0)}, Term: must(t, "a:any")}}
	c := api.Completion{Rules: sort, Proofs: [][]api.Equal{{step(t, 0, "a:any")}, {step(t, 1, "?x:key")}}, Equations: joins}
	if completion.Check(sort[:1], names, c) {
		t.Error("a sort: accepted")
	}
}

// completionWith returns a completion for equations that are right as rules,
// or follow from the others, with one more rule that has a proof.
func completionWith(t *testing.T, equations []api.Rule, precedence []string, r api.Rule, proof []api.Equal) api.Completion {
	t.Helper()
	var c api.Completion
	for i, q := range equations {
		way, e := order.Lpo(precedence, q.Left, q.Right)
		if e != api.OK {
			t.Fatal(e)
		}
		if way == 2 {
			continue
		}
		if way == -1 {
			q.Left, q.Right = q.Right, q.Left
		}
		c.Rules = append(c.Rules, q)
		c.Proofs = append(c.Proofs, []api.Equal{{Equation: i, Back: way == -1, Term: q.Right}})
	}
	c.Rules, c.Proofs = append(c.Rules, r), append(c.Proofs, proof)
	var e api.Errno
	if c.Joins, _, e = completion.Confluent(c.Rules, 100); e != api.OK {
		t.Fatal(e)
	}
	for _, q := range equations {
		j, e := rewrite.Joins(c.Rules, q.Left, q.Right, 100)
		if e != api.OK {
			t.Fatal(e)
		}
		c.Equations = append(c.Equations, j)
	}
	return c
}

// P7.1: which steps are right. All rules follow from the equations, and all
// terms are joined, so that it depends on the steps alone.
func TestCheckSteps(t *testing.T) {
	type steps = []api.Equal
	for what, c := range map[string]struct {
		equations []string
		l, r      string
		proof     steps
		want      bool
	}{
		"the root":                   {[]string{"f(?x)", "g(?x)"}, "f(a:any)", "g(a:any)", steps{step(t, 0, "g(a:any)")}, true},
		"the root, an empty list":    {[]string{"f(?x)", "g(?x)"}, "f(a:any)", "g(a:any)", steps{{Position: []int{}, Term: must(t, "g(a:any)")}}, true},
		"not back":                   {[]string{"f(?x)", "g(?x)"}, "f(a:any)", "g(a:any)", steps{back(t, 0, "g(a:any)")}, false},
		"back":                       {[]string{"g(?x)", "f(?x)"}, "f(a:any)", "g(a:any)", steps{back(t, 0, "g(a:any)")}, true},
		"back is needed":             {[]string{"g(?x)", "f(?x)"}, "f(a:any)", "g(a:any)", steps{step(t, 0, "g(a:any)")}, false},
		"inside":                     {[]string{"f(?x)", "g(?x)"}, "f(f(a:any))", "f(g(a:any))", steps{step(t, 0, "f(g(a:any))", 0)}, true},
		"inside, at the root":        {[]string{"f(?x)", "g(?x)"}, "f(f(a:any))", "f(g(a:any))", steps{step(t, 0, "f(g(a:any))")}, false},
		"root and inside":            {[]string{"f(?x)", "g(?x)"}, "f(f(a:any))", "g(g(a:any))", steps{step(t, 0, "g(f(a:any))"), step(t, 0, "g(g(a:any))", 0)}, true},
		"root and inside at once":    {[]string{"f(?x)", "g(?x)"}, "f(f(a:any))", "g(g(a:any))", steps{step(t, 0, "g(g(a:any))")}, false},
		"an instance":                {[]string{"f(?x)", "g(?x)"}, "f(f(?y))", "g(f(?y))", steps{step(t, 0, "g(f(?y))")}, true},
		"an instance with itself":    {[]string{"f(?x)", "g(?x)"}, "f(f(?x))", "g(f(?x))", steps{step(t, 0, "g(f(?x))")}, true},
		"different instances":        {[]string{"f(?x)", "g(?x)", "b:any", "a:any"}, "f(b:any)", "g(a:any)", steps{step(t, 0, "g(a:any)")}, false},
		"one after the other":        {[]string{"f(?x)", "g(?x)", "b:any", "a:any"}, "f(b:any)", "g(a:any)", steps{step(t, 0, "g(b:any)"), step(t, 1, "g(a:any)", 0)}, true},
		"different, with a variable": {[]string{"f(?x, ?x)", "g(?x)", "b:any", "a:any"}, "f(a:any, b:any)", "g(a:any)", steps{step(t, 0, "g(a:any)")}, false},
		"only on the left":           {[]string{"f(?x, ?y)", "g(?x)"}, "f(a:any, b:any)", "g(a:any)", steps{step(t, 0, "g(a:any)")}, true},
		"only on the right":          {[]string{"g(?x)", "f(?x, ?y)"}, "f(a:any, b:any)", "g(a:any)", steps{back(t, 0, "g(a:any)"), step(t, 0, "f(a:any, g(?z))"), back(t, 0, "g(a:any)")}, true},
		"no common variable":         {[]string{"f(?x)", "g(?y)", "f(?x)", "a:any", "g(?x)", "a:any"}, "f(b:any)", "g(a:any)", steps{step(t, 0, "g(a:any)")}, true},
		"no common variable, back":   {[]string{"f(?x)", "g(?y)", "f(?x)", "a:any", "g(?x)", "a:any"}, "f(b:any)", "g(a:any)", steps{back(t, 0, "g(a:any)")}, false},
		"a variable for anything":    {[]string{"?x", "g(?x)"}, "g(g(b:any))", "g(b:any)", steps{back(t, 0, "g(b:any)")}, true},
		"a variable, inside":         {[]string{"?x", "g(?x)"}, "g(g(b:any))", "g(b:any)", steps{back(t, 0, "g(b:any)", 0)}, true},
		"a variable, not back":       {[]string{"?x", "g(?x)"}, "g(b:any)", "b:any", steps{step(t, 0, "b:any")}, false},
		"ground":                     {[]string{"b:any", "a:any"}, "f(b:any, b:any)", "f(b:any, a:any)", steps{step(t, 0, "f(b:any, a:any)", 1)}, true},
		"ground, at another place":   {[]string{"b:any", "a:any"}, "f(b:any, b:any)", "f(b:any, a:any)", steps{step(t, 0, "f(b:any, a:any)", 0)}, false},
		"changed at two places":      {[]string{"b:any", "a:any"}, "f(b:any, b:any)", "f(a:any, a:any)", steps{step(t, 0, "f(a:any, a:any)", 0)}, false},
		"changed around it":          {[]string{"b:any", "a:any", "f(?x)", "g(?x)"}, "f(b:any)", "g(a:any)", steps{step(t, 0, "g(a:any)", 0)}, false},
		"another number of kids":     {[]string{"b:any", "a:any", "f(?x, ?y)", "f(?x)"}, "f(b:any, b:any)", "f(a:any)", steps{step(t, 0, "f(a:any)", 0)}, false},
		"no such position behind it": {[]string{"f(?x, ?y)", "?x"}, "f(b:any, a:any)", "b:any", steps{step(t, 0, "b:any", 1)}, false},
		"no such position before it": {[]string{"f(?x)", "g(g(?x))"}, "f(a:any)", "g(g(a:any))", steps{step(t, 0, "g(g(a:any))", 0, 0)}, false},
		"position -1":                {[]string{"f(?x)", "g(?x)"}, "f(a:any)", "g(a:any)", steps{step(t, 0, "g(a:any)", -1)}, false},
		"a term that is not valid":   {[]string{"f(?x, ?y)", "a:any"}, "f(a:any, a:any)", "a:any", steps{step(t, 0, "a:any"), {Back: true, Term: app("f", atom("a", 0), atom("", 0))}, step(t, 0, "a:any")}, false},
		"a term that is valid":       {[]string{"f(?x, ?y)", "a:any"}, "f(a:any, a:any)", "a:any", steps{step(t, 0, "a:any"), back(t, 0, "f(a:any, ?q:key)"), step(t, 0, "a:any")}, true},
		"a term that is too large":   {[]string{"f(?x, ?y)", "a:any"}, "f(a:any, a:any)", "a:any", steps{step(t, 0, "a:any"), {Back: true, Term: app("f", atom("a", 0), sized(400))}, step(t, 0, "a:any")}, false},
		"an atom for a variable":     {[]string{"f(?x)", "?x"}, "f(a:key)", "a:key", steps{step(t, 0, "a:key")}, true},
		"sorts of atoms":             {[]string{"f(a:key)", "a:key", "a:key", "a:any"}, "f(a:any)", "a:any", steps{step(t, 0, "a:any")}, false},
		"not to the right side":      {[]string{"f(?x)", "g(?x)", "g(?x)", "?x"}, "f(a:any)", "a:any", steps{step(t, 0, "g(a:any)")}, false},
		"to the right side":          {[]string{"f(?x)", "g(?x)", "g(?x)", "?x"}, "f(a:any)", "a:any", steps{step(t, 0, "g(a:any)"), step(t, 1, "a:any")}, true},
		"not from the left side":     {[]string{"f(?x)", "g(?x)", "g(?x)", "?x"}, "f(a:any)", "a:any", steps{step(t, 1, "a:any")}, false},
		"a gap":                      {[]string{"f(?x)", "g(?x)", "g(?x)", "?x"}, "f(f(a:any))", "a:any", steps{step(t, 0, "g(f(a:any))"), step(t, 1, "a:any")}, false},
	} {
		q, r := rules(t, c.equations...), rules(t, c.l, c.r)[0]
		if got := completion.Check(q, names, completionWith(t, q, names, r, c.proof)); got != c.want {
			t.Errorf("%s: %v", what, got)
		}
	}
}

// P7.1: a step needs pairs that are valid terms, of the sides of the equation
// and of the parts.
func TestCheckLargeSteps(t *testing.T) {
	precedence := []string{"a", "h", "g", "f"}
	for what, c := range map[string]struct {
		equation api.Rule
		inner    api.Term
		want     bool
	}{
		"parts with 399 nodes":     {rules(t, "f(?x)", "g(?x)")[0], sized(198), true},
		"parts with 401 nodes":     {rules(t, "f(?x)", "g(?x)")[0], sized(199), false},
		"parts with 40 levels":     {rules(t, "f(?x)", "h(?x)")[0], tower(38, atom("a", 0)), true},
		"parts with 41 levels":     {rules(t, "f(?x)", "h(?x)")[0], tower(39, atom("a", 0)), false},
		"an equation of 400 nodes": {api.Rule{Left: app("f", sized(199)), Right: sized(199)}, atom("a", 0), true},
		"an equation of 401 nodes": {api.Rule{Left: app("f", sized(200)), Right: sized(199)}, atom("a", 0), false},
		"an equation of 40 levels": {api.Rule{Left: app("f", tower(38, atom("a", 0))), Right: app("h")}, atom("a", 0), true},
		"an equation of 41 levels": {api.Rule{Left: app("f", tower(39, atom("a", 0))), Right: app("h")}, atom("a", 0), false},
	} {
		s := []api.Binding{{Var: variable("x", 0), Term: c.inner}}
		r := api.Rule{Left: replace(s, c.equation.Left), Right: replace(s, c.equation.Right)}
		q := []api.Rule{c.equation}
		all := completionWith(t, q, precedence, r, []api.Equal{{Term: r.Right}})
		if got := completion.Check(q, precedence, all); got != c.want || refCheck(q, precedence, all) != got {
			t.Errorf("%s: %v", what, got)
		}
	}
}

// P7.1: all terms of a proof are valid, also where only a small part changes.
func TestCheckLargeTerms(t *testing.T) {
	a, b := atom("a", 0), atom("b", 0)
	q, precedence := rules(t, "g(?x)", "?x", "b:any", "a:any"), []string{"a", "b", "h", "g", "f"}
	for n, want := range map[int]bool{397: true, 398: false} {
		all := func(x api.Term) api.Term { return app("f", sized(n), x) }
		proof := []api.Equal{
			{Equation: 0, Back: true, Position: []int{1}, Term: all(app("g", b))},
			{Equation: 0, Position: []int{1}, Term: all(b)},
			{Equation: 1, Position: []int{1}, Term: all(a)},
		}
		r := api.Rule{Left: all(b), Right: all(a)}
		if completion.Check(q, precedence, completionWith(t, q, precedence, r, proof)) != want {
			t.Errorf("%d nodes in between: not %v", n+3, want)
		}
		if !completion.Check(q, precedence, completionWith(t, q, precedence, r, proof[2:])) {
			t.Errorf("%d nodes: not accepted", n+2)
		}
	}
}

// P7.1: Check does what the definition says, for completions in which a thing
// or two are changed.
func TestCheckByDefinition(t *testing.T) {
	r := rand.New(rand.NewPCG(7, 8))
	seen := map[bool]int{}
	for range 6000 {
		l := few.equations(r, 3)
		c, e := completion.Complete(l, names, 100)
		if e != api.OK || len(c.Rules) == 0 {
			continue
		}
		c = copyOf(c)
		for range r.IntN(3) {
			change(r, l, &c)
		}
		want := refCheck(l, names, c)
		if completion.Check(l, names, c) != want {
			t.Fatalf("%s: %v, not %v", showRules(l), c, want)
		}
		seen[want]++
	}
	checkSeen(t, seen, 1000, true, false)
}

// change changes something of a completion.
func change(r *rand.Rand, equations []api.Rule, c *api.Completion) {
	i := r.IntN(len(c.Rules))
	switch r.IntN(6) {
	case 0:
		c.Rules[i].Right = few.known(r, few.random(r, 2), term.Vars(c.Rules[i].Left))
	case 1:
		l := c.Proofs[i]
		if len(l) > 0 {
			s := &l[r.IntN(len(l))]
			switch r.IntN(4) {
			case 0:
				s.Back = !s.Back
			case 1:
				s.Equation = r.IntN(len(equations)+2) - 1
			case 2:
				s.Term = few.instanceIn(r, equations, 3)
			case 3:
				s.Position = pick(r, term.Positions(s.Term))
			}
		}
	case 2:
		detour(r, equations, c, i)
	case 3:
		if len(c.Joins) > 0 {
			k := r.IntN(len(c.Joins))
			c.Joins[k].Left, c.Joins[k].Right = c.Joins[k].Right, c.Joins[k].Left
		}
	case 4:
		k := r.IntN(len(equations))
		c.Equations[k].Left = slices.Clone(c.Equations[k].Left)[:r.IntN(len(c.Equations[k].Left)+1)]
	case 5:
		c.Proofs[i] = c.Proofs[i][:r.IntN(len(c.Proofs[i])+1)]
	}
}

// detour puts a step and back into a proof, before its last step.
func detour(r *rand.Rand, equations []api.Rule, c *api.Completion, i int) {
	l := c.Proofs[i]
	if len(l) == 0 {
		return
	}
	t := c.Rules[i].Left
	if len(l) > 1 {
		t = l[len(l)-2].Term
	}
	s, found := randomStep(r, equations, t)
	if !found {
		return
	}
	again := api.Equal{Equation: s.Equation, Back: !s.Back, Position: s.Position, Term: t}
	c.Proofs[i] = slices.Concat(l[:len(l)-1], []api.Equal{s, again}, l[len(l)-1:])
}

// randomStep returns a step from t that is right, if it finds one.
func randomStep(r *rand.Rand, equations []api.Rule, t api.Term) (api.Equal, bool) {
	for range 20 {
		k, at, turn := r.IntN(len(equations)), pick(r, term.Positions(t)), r.IntN(2) == 0
		q := equations[k]
		if turn {
			q.Left, q.Right = q.Right, q.Left
		}
		part, _ := term.At(t, at)
		if u, found := instanceOf(r, q, part); found {
			s := api.Equal{Equation: k, Back: turn, Position: at, Term: put(t, at, u)}
			if refStep(equations, t, s) {
				return s, true
			}
		}
	}
	return api.Equal{}, false
}

// instanceOf returns an instance of the right side of an equation for which
// the left one is t.
func instanceOf(r *rand.Rand, q api.Rule, t api.Term) (api.Term, bool) {
	s, e := unify.Match(q.Left, t)
	if e != api.OK {
		return api.Term{}, false
	}
	var free []api.Term
	for _, x := range term.Vars(q.Right) {
		if !slices.ContainsFunc(term.Vars(q.Left), func(y api.Term) bool { return same(x, y) }) {
			free = append(free, x)
		}
	}
	return replace(slices.Concat(s, few.bindings(r, free, 2)), q.Right), true
}

// P7.1: a completion may be accepted with any precedence for which its rules
// decrease, and for no other list.
func TestCheckPrecedence(t *testing.T) {
	r := rand.New(rand.NewPCG(9, 10))
	seen := map[bool]int{}
	for range 10000 {
		l := few.equations(r, 3)
		c, e := completion.Complete(l, names, 100)
		if e != api.OK {
			continue
		}
		other := slices.Clone(names)
		r.Shuffle(len(other), func(i, k int) { other[i], other[k] = other[k], other[i] })
		other = other[:4-r.IntN(2)]
		_, want := order.Decreasing(other, c.Rules)
		if completion.Check(l, other, c) != want {
			t.Fatalf("%s: %v, %v, not %v", showRules(l), c, other, want)
		}
		seen[want]++
	}
	checkSeen(t, seen, 300, true, false)
}
