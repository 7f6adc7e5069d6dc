package completion_test

import (
	"math/rand/v2"
	"slices"
	"strings"
	"testing"

	"sealring/api"
	"sealring/completion"
	"sealring/order"
)

// isZero reports whether a completion is the zero value.
func isZero(c api.Completion) bool {
	return len(c.Rules) == 0 && len(c.Proofs) == 0 && len(c.Joins) == 0 && len(c.Equations) == 0
}

// P7.1: Complete returns a completion that is right, for systems whose simple
// completion is right and for others.
func TestComplete(t *testing.T) {
	group := []string{"e", "f", "i"}
	for what, c := range map[string]struct {
		l          []api.Rule
		precedence []string
		equal      []string // two terms, side by side
		different  []string
	}{
		"nothing":        {nil, nil, []string{"a:any", "a:any"}, []string{"a:any", "b:any", "?x", "?y"}},
		"equal sides":    {rules(t, "g(?x)", "g(?x)", "?x", "?x"), []string{"g"}, nil, []string{"g(a:any)", "g(b:any)"}},
		"the example":    {twice(t), twicePrecedence, []string{"g(b:any)", "a:any"}, []string{"a:any", "b:any"}},
		"atoms":          {rules(t, "a:any", "b:any"), []string{"b", "a"}, []string{"g(a:any)", "g(b:any)"}, []string{"a:any", "a:key"}},
		"atoms, turned":  {rules(t, "a:any", "b:any"), []string{"a", "b"}, []string{"g(a:any)", "g(b:any)"}, nil},
		"units":          {rules(t, "f(?x, h())", "?x", "?x", "f(h(), ?x)"), []string{"h", "f"}, []string{"f(h(), f(a:any, h()))", "a:any"}, []string{"f(a:any, b:any)", "f(b:any, a:any)"}},
		"associativity":  {rules(t, "f(f(?x, ?y), ?z)", "f(?x, f(?y, ?z))"), []string{"f"}, []string{"f(f(a:any, b:any), c:any)", "f(a:any, f(b:any, c:any))"}, []string{"f(a:any, b:any)", "f(b:any, a:any)"}},
		"twice the same": {slices.Repeat(rules(t, "f(f(?x))", "f(?x)"), 5), []string{"f"}, []string{"f(f(f(?x)))", "f(?x)"}, []string{"f(?x)", "?x"}},
		"groups": {
			rules(t, "f(e(), ?x)", "?x", "f(i(?x), ?x)", "e()", "f(f(?x, ?y), ?z)", "f(?x, f(?y, ?z))"), group,
			[]string{"f(?x, e())", "?x", "f(?x, i(?x))", "e()", "i(i(?x))", "?x", "i(f(?x, ?y))", "f(i(?y), i(?x))", "f(f(?x, i(?y)), f(?y, i(?x)))", "i(e())"},
			[]string{"f(?x, ?y)", "f(?y, ?x)", "i(?x)", "?x", "?x", "e()"},
		},
		"groups, to the right": {
			rules(t, "?x", "f(?x, e())", "f(?x, i(?x))", "e()", "f(?x, f(?y, ?z))", "f(f(?x, ?y), ?z)"), group,
			[]string{"f(e(), ?x)", "?x", "f(i(?x), ?x)", "e()", "i(i(?x))", "?x"},
			[]string{"f(?x, ?y)", "f(?y, ?x)"},
		},
		"a left unit, right inverses": {
			rules(t, "f(e(), ?x)", "?x", "f(?x, i(?x))", "e()", "f(f(?x, ?y), ?z)", "f(?x, f(?y, ?z))"), group,
			[]string{"i(f(?x, ?y))", "f(i(?y), i(?x))", "f(f(i(?x), ?x), ?y)", "?y"},
			[]string{"f(?x, e())", "?x", "i(i(?x))", "?x"},
		},
		"a right unit, left inverses": {
			rules(t, "f(?x, e())", "?x", "f(i(?x), ?x)", "e()", "f(f(?x, ?y), ?z)", "f(?x, f(?y, ?z))"), group,
			[]string{"i(f(?x, ?y))", "f(i(?y), i(?x))", "f(?y, f(?x, i(?x)))", "?y"},
			[]string{"f(e(), ?x)", "?x", "i(i(?x))", "?x"},
		},
		"central groupoids":  {rules(t, "f(f(?x, ?y), f(?y, ?z))", "?y"), []string{"f"}, []string{"f(?x, f(f(?x, ?y), ?z))", "f(?x, ?y)"}, []string{"f(?x, ?y)", "?x"}},
		"relations of words": {rules(t, "p(p(?x))", "?x", "q(q(?x))", "?x", "p(q(p(q(p(q(?x))))))", "?x"), []string{"p", "q"}, []string{"p(q(p(?x)))", "q(p(q(?x)))"}, []string{"p(q(?x))", "q(p(?x))"}},
		"larger relations":   {rules(t, "p(p(?x))", "?x", "q(q(q(?x)))", "?x", "p(q(p(q(p(q(p(q(p(q(?x))))))))))", "?x"), []string{"p", "q"}, []string{"q(q(p(q(q(p(q(q(p(q(q(p(q(q(p(?x)))))))))))))))", "?x"}, []string{"p(q(?x))", "q(p(?x))", "p(?x)", "?x"}},
		"joined by another":  {rules(t, "f(?x, ?y)", "f(?y, ?x)", "f(?x, ?y)", "a:any"), []string{"a", "f"}, []string{"f(b:any, ?x)", "f(?x, c:any)"}, []string{"b:any", "c:any"}},
		"joined much later":  {rules(t, "f(?x, ?y)", "f(?y, ?x)", "g(g(?x))", "f(?x, ?x)", "g(?x)", "a:any", "f(a:any, ?x)", "f(?x, ?x)", "f(?x, ?y)", "f(?y, ?y)"), []string{"a", "g", "f"}, []string{"f(b:any, ?x)", "f(?x, c:any)"}, []string{"b:any", "c:any"}},
		"no variables":       {rules(t, "g(g(g(a:any)))", "a:any", "g(g(g(g(g(a:any)))))", "a:any"), []string{"a", "g"}, []string{"g(a:any)", "a:any"}, []string{"g(b:any)", "b:any"}},
		"a variable more":    {rules(t, "f(?x, ?y)", "g(?x)", "f(?y, ?x)", "a:any"), []string{"a", "g", "f"}, []string{"g(?x)", "a:any"}, []string{"?x", "a:any"}},
		"pairs with dec":     {rules(t, "fst(pair(?x, ?y))", "?x", "snd(pair(?x, ?y))", "?y", "dec(enc(?x, ?k), ?k)", "?x", "pair(fst(?x), snd(?x))", "?x"), []string{"pair", "enc", "fst", "snd", "dec"}, []string{"fst(pair(pair(?x, ?y), ?z))", "pair(?x, ?y)", "pair(fst(?z), snd(?z))", "?z"}, []string{"fst(?x)", "snd(?x)"}},
	} {
		for _, fuel := range []int{100, 200, 1000} {
			x, e := completion.Complete(c.l, c.precedence, fuel)
			if e != api.OK {
				t.Errorf("%s with %d: %v", what, fuel, e)
				continue
			}
			if !completion.Check(c.l, c.precedence, x) || !refCheck(c.l, c.precedence, x) {
				t.Errorf("%s with %d: not accepted", what, fuel)
			}
			for i := 0; i < len(c.equal); i += 2 {
				if yes, e := completion.Decide(x, must(t, c.equal[i]), must(t, c.equal[i+1]), 1000); !yes || e != api.OK {
					t.Errorf("%s with %d: %s is not %s: %v", what, fuel, c.equal[i], c.equal[i+1], e)
				}
			}
			for i := 0; i < len(c.different); i += 2 {
				if yes, e := completion.Decide(x, must(t, c.different[i]), must(t, c.different[i+1]), 1000); yes || e != api.OK {
					t.Errorf("%s with %d: %s is %s: %v", what, fuel, c.different[i], c.different[i+1], e)
				}
			}
		}
	}
}

// P7.1: systems without a completion, or for which there is no end.
func TestCompleteWithoutEnd(t *testing.T) {
	for what, c := range map[string]struct {
		l          []api.Rule
		precedence []string
	}{
		"exchanged":                {rules(t, "pair(?x, ?y)", "pair(?y, ?x)"), []string{"pair"}},
		"exchanged, and another":   {rules(t, "a:any", "b:any", "pair(?x, ?y)", "pair(?y, ?x)"), []string{"a", "b", "pair"}},
		"an unknown":               {rules(t, "f(?x)", "g(?y)"), []string{"g", "f"}},
		"all terms are equal":      {rules(t, "?x", "?y"), nil},
		"a term for all":           {rules(t, "?x", "a:any"), []string{"a"}},
		"all terms, in the end":    {rules(t, "f(?x)", "a:any", "f(?x)", "?x"), []string{"a", "f"}},
		"squares that are units":   {rules(t, "f(e(), ?x)", "?x", "f(i(?x), ?x)", "e()", "f(f(?x, ?y), ?z)", "f(?x, f(?y, ?z))", "f(?x, ?x)", "e()"), []string{"e", "f", "i"}},
		"always more rules":        {rules(t, "f(g(f(?x)))", "g(f(?x))"), []string{"f", "g"}},
		"always more rules, bands": {rules(t, "f(f(?x, ?y), ?z)", "f(?x, f(?y, ?z))", "f(?x, ?x)", "?x"), []string{"f"}},
		"always larger terms":      {rules(t, "f(f(?x))", "f(g(?x, ?x))"), []string{"g", "f"}},
	} {
		for _, fuel := range []int{0, 1, 20, 100} {
			x, e := completion.Complete(c.l, c.precedence, fuel)
			if e != api.ErrFuel && e != api.ErrTooLarge && e != api.ErrRefused || !isZero(x) {
				t.Errorf("%s with %d: %v, %v", what, fuel, e, x)
			}
		}
	}
	if _, e := completion.Complete(rules(t, "pair(?x, ?y)", "pair(?y, ?x)"), []string{"pair"}, 100); e != api.ErrRefused {
		t.Errorf("exchanged: %v", e)
	}
}

// P7.1: the errors of Complete, in order.
func TestCompleteErrors(t *testing.T) {
	wrongNames := map[string]struct {
		l    []string
		want api.Errno
	}{
		"41 names":     {manyNames(41), api.ErrTooLarge},
		"no name":      {[]string{"f", ""}, api.ErrSyntax},
		"a long name":  {[]string{strings.Repeat("x", 25)}, api.ErrSyntax},
		"a name twice": {[]string{"f", "g", "f"}, api.ErrExists},
	}
	missing := rules(t, "f(?x)", "g(?x)")
	for what, c := range invalidEquations(t) {
		for _, l := range [][]string{names, wrongNames["no name"].l, nil} {
			for _, fuel := range []int{100, -1, 1001} {
				if x, e := completion.Complete(c.l, l, fuel); e != c.want || !isZero(x) {
					t.Errorf("%s: %v, %v, not %v", what, x, e, c.want)
				}
			}
		}
	}
	for what, c := range wrongNames {
		for _, l := range [][]api.Rule{nil, missing, rules(t, "a:any", "b:any")} {
			for _, fuel := range []int{100, -1, 1001} {
				if x, e := completion.Complete(l, c.l, fuel); e != c.want || !isZero(x) {
					t.Errorf("%s: %v, %v, not %v", what, x, e, c.want)
				}
			}
		}
	}
	for _, fuel := range []int{-1, 1001, -1 << 62, 1 << 62} {
		for _, l := range [][]api.Rule{nil, missing, rules(t, "f(?x)", "?x")} {
			if x, e := completion.Complete(l, []string{"f"}, fuel); e != api.ErrRange || !isZero(x) {
				t.Errorf("fuel %d: %v, %v", fuel, x, e)
			}
		}
	}
	for what, l := range map[string][]api.Rule{
		"on the left":      rules(t, "g(?x)", "f(?x)"),
		"on the right":     missing,
		"inside":           rules(t, "f(f(?x, g()))", "a:any"),
		"an atom":          rules(t, "f(a:any)", "b:any"),
		"in the second":    rules(t, "f(?x)", "?x", "f(a:any)", "c:key"),
		"in equal sides":   rules(t, "c:any", "c:any"),
		"beside others":    rules(t, "?x", "?y", "f(?x, ?y)", "g(?x, ?y)"),
		"for every fuel":   rules(t, "f(?x, ?y)", "g(?x, ?y)"),
		"all equal, but g": rules(t, "?x", "g(?y)"),
	} {
		for _, fuel := range []int{0, 100, 1000} {
			if x, e := completion.Complete(l, []string{"a", "f"}, fuel); e != api.ErrNotFound || !isZero(x) {
				t.Errorf("%s: %v, %v", what, x, e)
			}
		}
	}
	// names of variables need not be there
	if x, e := completion.Complete(rules(t, "f(?g)", "?g"), []string{"f"}, 100); e != api.OK || len(x.Rules) != 1 {
		t.Errorf("a variable: %v, %v", x, e)
	}
}

// P7.1: a completion is found whenever the simple one is right.
func TestCompleteFindsSimpleOnes(t *testing.T) {
	r := rand.New(rand.NewPCG(11, 12))
	seen := map[string]int{}
	for range 3000 {
		l := few.equations(r, 4)
		s, found := refSimple(l, names)
		found = found && refCheck(l, names, s)
		if found && !completion.Check(l, names, s) {
			t.Fatalf("%s: %v not accepted", showRules(l), s)
		}
		fuel := pick(r, []int{100, 101, 300, 1000})
		c, e := completion.Complete(l, names, fuel)
		if found && e != api.OK {
			t.Fatalf("%s with %d: %v", showRules(l), fuel, e)
		}
		if e != api.OK {
			if e != api.ErrFuel && e != api.ErrTooLarge && e != api.ErrRefused || !isZero(c) {
				t.Fatalf("%s with %d: %v, %v", showRules(l), fuel, e, c)
			}
			seen["none"]++
			continue
		}
		if !completion.Check(l, names, c) || !refCheck(l, names, c) {
			t.Fatalf("%s with %d: %v is not accepted", showRules(l), fuel, c)
		}
		switch {
		case !found:
			seen["another one"]++
		case len(l) > 1:
			seen["simple"]++
		}
	}
	checkSeen(t, seen, 100, "none", "another one", "simple")
}

// P7.1: whatever the fuel, what is returned is right.
func TestCompleteWithLittleFuel(t *testing.T) {
	r := rand.New(rand.NewPCG(13, 14))
	seen := map[api.Errno]int{}
	for range 4000 {
		l, fuel := few.equations(r, 3), r.IntN(8)
		c, e := completion.Complete(l, names, fuel)
		if e == api.OK && !completion.Check(l, names, c) || e != api.OK && !isZero(c) {
			t.Fatalf("%s with %d: %v, %v", showRules(l), fuel, c, e)
		}
		seen[e]++
	}
	checkSeen(t, seen, 100, api.OK, api.ErrFuel, api.ErrRefused)
}

// P7.1: 40 equations, and long chains that take 100 steps.
func TestCompleteManyEquations(t *testing.T) {
	x := variable("x", 0)
	var chain []api.Rule
	for i := range 39 {
		chain = append(chain, api.Rule{Left: app(manyNames(40)[i+1], x), Right: app(manyNames(40)[i], x)})
	}
	chain = append(chain, chain[0])
	c, e := completion.Complete(chain, manyNames(40), 100)
	if e != api.OK || !completion.Check(chain, manyNames(40), c) {
		t.Errorf("40 equations: %v", e)
	}
	if yes, e := completion.Decide(c, app("n0039", x), app("n0000", x), 39); !yes || e != api.OK {
		t.Errorf("39 steps: %v, %v", yes, e)
	}
	// the last equation needs exactly as many steps as there is fuel
	for n, want := range map[int]bool{100: true, 101: false} {
		l := []api.Rule{{Left: atom("a", 0), Right: atom("b", 0)}, {Left: largeTree(atom("a", 0), n), Right: largeTree(atom("b", 0), n)}}
		s, found := refSimple(l, []string{"b", "a", "f"})
		if found != want {
			t.Fatalf("%d steps: %v", n, found)
		}
		c, e := completion.Complete(l, []string{"b", "a", "f"}, 100)
		if want && (e != api.OK || !completion.Check(l, []string{"b", "a", "f"}, c) || !completion.Check(l, []string{"b", "a", "f"}, s)) {
			t.Errorf("%d steps: %v", n, e)
		}
	}
}

// P7.1: simple completions with many variables, in both directions.
func TestCompleteManyVariables(t *testing.T) {
	x := many(variable, "x", 300)
	large := app("k", tree(x))
	for what, l := range map[string][]api.Rule{
		"from left to right": {{Left: large, Right: x[0]}},
		"from right to left": {{Left: x[0], Right: large}},
	} {
		precedence := []string{"f", "k"}
		if s, found := refSimple(l, precedence); !found || !refCheck(l, precedence, s) {
			t.Fatalf("%s: not simple", what)
		}
		if c, e := completion.Complete(l, precedence, 100); e != api.OK || !completion.Check(l, precedence, c) {
			t.Errorf("%s: %v", what, e)
		}
	}
}

// P7.1: there is no completion where the steps, or the terms at which rules
// overlap, are too large.
func TestCompleteTooLarge(t *testing.T) {
	x := variable("x", 0)
	for what, c := range map[string]struct {
		l    []api.Rule
		want api.Errno
	}{
		"an equation of 400 nodes":  {[]api.Rule{{Left: app("f", sized(199)), Right: sized(199)}}, api.OK},
		"an equation of 401 nodes":  {[]api.Rule{{Left: app("f", sized(200)), Right: sized(199)}}, api.ErrTooLarge},
		"a term of 400 nodes joins": {[]api.Rule{{Left: app("f", app("g", x), x, x, x), Right: atom("a", 0)}, {Left: app("g", app("c", sized(98))), Right: atom("a", 0)}, {Left: app("c", x), Right: app("c")}, {Left: app("f", atom("a", 0), app("c"), app("c"), app("c")), Right: atom("a", 0)}}, api.OK},
		"a term of 401 nodes":       {[]api.Rule{{Left: app("f", app("g", x), x, x), Right: atom("a", 0)}, {Left: app("g", app("c", sized(132))), Right: atom("b", 0)}}, api.ErrTooLarge},
	} {
		precedence := []string{"a", "b", "h", "c", "g", "f"}
		got, e := completion.Complete(c.l, precedence, 100)
		if e != c.want && (c.want == api.OK || e != api.ErrFuel && e != api.ErrRefused) || e != api.OK && !isZero(got) {
			t.Errorf("%s: %v", what, e)
		}
		if e == api.OK && !completion.Check(c.l, precedence, got) {
			t.Errorf("%s: not accepted", what)
		}
	}
}

// largeTree returns a term with n leaves.
func largeTree(leaf api.Term, n int) api.Term {
	return tree(slices.Repeat([]api.Term{leaf}, n))
}

// P7.1: equal arguments give equal results that share no memory, and arguments
// do not change.
func TestCompleteSharesNothing(t *testing.T) {
	for what, c := range map[string]struct {
		l          []api.Rule
		precedence []string
	}{
		"simple":      {rules(t, "f(f(?x, ?y), ?z)", "f(?x, f(?y, ?z))", "g(h(a:any), b:any)", "g(h(a:any), b:any)", "a:any", "h(h(b:any))"), []string{"b", "h", "a", "g", "f"}},
		"the example": {twice(t), twicePrecedence},
		"groups":      {rules(t, "f(e(), ?x)", "?x", "f(i(?x), ?x)", "e()", "f(f(?x, ?y), ?z)", "f(?x, f(?y, ?z))"), []string{"e", "f", "i"}},
	} {
		before := show(c)
		x, e := completion.Complete(c.l, c.precedence, 100)
		y, f := completion.Complete(c.l, c.precedence, 100)
		if e != api.OK || f != api.OK || show(x) != show(y) {
			t.Errorf("%s: %v, %v, %v, %v", what, x, e, y, f)
		}
		m := memory{}
		m.rules(t, c.l)
		m.completion(t, x)
		m.completion(t, y)
		if show(c) != before {
			t.Errorf("%s: an argument has changed", what)
		}
		made := show(x)
		if !completion.Check(c.l, c.precedence, x) || show(x) != made || show(c) != before {
			t.Errorf("%s: Check", what)
		}
	}
}

// P7.1: the rules of what Complete returns decrease.
func TestCompleteDecreases(t *testing.T) {
	l := rules(t, "g(f(?x))", "f(g(?x))", "f(f(?x))", "g(?x)")
	for _, precedence := range [][]string{{"f", "g"}, {"g", "f"}} {
		x, e := completion.Complete(l, precedence, 1000)
		if e != api.OK {
			t.Errorf("%v: %v", precedence, e)
		}
		if i, ok := order.Decreasing(precedence, x.Rules); !ok {
			t.Errorf("%v: rule %d", precedence, i)
		}
	}
}
