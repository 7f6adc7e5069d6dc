package completion_test

import (
	"math/rand/v2"
	"slices"
	"testing"

	"sealring/api"
	"sealring/completion"
)

// P7.1: the three steps of Interreduce.
func TestInterreduce(t *testing.T) {
	for what, c := range map[string]struct{ l, want []api.Rule }{
		"no rules":                     {nil, nil},
		"nothing to do":                {rules(t, "g(g(?x))", "?x", "f(?x)", "?x"), rules(t, "g(g(?x))", "?x", "f(?x)", "?x")},
		"a right side":                 {rules(t, "g(a:any)", "g(b:any)", "g(b:any)", "c:any"), rules(t, "g(a:any)", "c:any", "g(b:any)", "c:any")},
		"a right side of two steps":    {rules(t, "a:any", "b:any", "b:any", "c:any", "c:any", "d:any"), rules(t, "a:any", "d:any", "b:any", "d:any", "c:any", "d:any")},
		"a right side inside":          {rules(t, "h(?x)", "f(g(?x), g(g(?x)))", "g(?x)", "?x"), rules(t, "h(?x)", "f(?x, ?x)", "g(?x)", "?x")},
		"a left side":                  {rules(t, "f(g(?x))", "?x", "g(?x)", "?x"), rules(t, "g(?x)", "?x")},
		"a later left side":            {rules(t, "g(?x)", "?x", "f(g(?x))", "?x"), rules(t, "g(?x)", "?x")},
		"a more general one":           {rules(t, "f(a:any)", "a:any", "f(?x)", "?x"), rules(t, "f(?x)", "?x")},
		"the same twice":               {rules(t, "a:any", "b:any", "a:any", "b:any"), rules(t, "a:any", "b:any")},
		"the same three times":         {slices.Repeat(rules(t, "f(?x)", "?x"), 3), rules(t, "f(?x)", "?x")},
		"the same behind another":      {rules(t, "f(?x)", "?x", "a:any", "b:any", "f(?x)", "?x"), rules(t, "f(?x)", "?x", "a:any", "b:any")},
		"the same after the first":     {rules(t, "a:any", "b:any", "a:any", "c:any", "b:any", "c:any"), rules(t, "a:any", "c:any", "b:any", "c:any")},
		"the same left side":           {rules(t, "a:any", "b:any", "a:any", "c:any"), rules(t, "a:any", "c:any")},
		"the same left side, 3 times":  {rules(t, "a:any", "b:any", "a:any", "c:any", "a:any", "d:any"), rules(t, "a:any", "d:any")},
		"variants":                     {rules(t, "f(?x)", "?x", "f(?y)", "?y"), rules(t, "f(?y)", "?y")},
		"both rewrite one another":     {rules(t, "f(?x, ?y)", "a:any", "f(?y, ?x)", "a:any", "f(?x, ?x)", "a:any"), rules(t, "f(?y, ?x)", "a:any")},
		"first rewrites second":        {rules(t, "f(?x)", "a:any", "g(f(f(?x)))", "f(b:any)"), rules(t, "f(?x)", "a:any")},
		"by a rule that is gone":       {rules(t, "f(g(?x))", "a:any", "h(f(g(?x)))", "b:any", "g(?x)", "?x"), rules(t, "g(?x)", "?x")},
		"only by a rule that is gone":  {rules(t, "f(g(a:any))", "a:any", "g(a:any)", "b:any", "f(g(?x))", "c:any"), rules(t, "g(a:any)", "b:any", "f(g(?x))", "c:any")},
		"left out before it is needed": {rules(t, "a:any", "b:any", "a:any", "b:any", "f(a:any)", "c:any"), rules(t, "a:any", "b:any")},
		"right sides by all rules":     {rules(t, "f(?x)", "g(?x)", "f(a:any)", "b:any", "h()", "f(a:any)"), rules(t, "f(?x)", "g(?x)", "h()", "g(a:any)")},
		"a rule rewrites itself":       {rules(t, "g(g(?x))", "g(?x)"), rules(t, "g(g(?x))", "g(?x)")},
		"other sorts of atoms":         {rules(t, "f(a:key)", "a:any", "a:any", "b:any"), rules(t, "f(a:key)", "b:any", "a:any", "b:any")},
	} {
		l, e := completion.Interreduce(c.l, 10)
		if e != api.OK || !slices.EqualFunc(l, c.want, sameRule) {
			t.Errorf("%s: %s, %v, not %s", what, showRules(l), e, showRules(c.want))
		}
		want, f := refInterreduce(c.l, 10)
		if f != api.OK || !slices.EqualFunc(l, want, sameRule) {
			t.Errorf("%s: by the definition %s, %v", what, showRules(want), f)
		}
	}
}

// P7.1: the errors of Interreduce, in order, and the fuel for each right side.
func TestInterreduceErrors(t *testing.T) {
	for what, c := range invalidRules(t) {
		for _, fuel := range []int{0, 10, -1, 1001} {
			if l, e := completion.Interreduce(c.l, fuel); e != c.want || len(l) != 0 {
				t.Errorf("%s: %v, %v, not %v", what, l, e, c.want)
			}
		}
	}
	chain := rules(t, "a:any", "b:any", "b:any", "c:any", "c:any", "d:any", "e:any", "b:any")
	large := []api.Rule{{Left: app("f", variable("x", 0)), Right: app("g", variable("x", 0))}, {Left: app("k"), Right: app("f", sized(200))}, {Left: app("g", variable("x", 0)), Right: app("d", variable("x", 0), variable("x", 0))}}
	loop := rules(t, "a:any", "b:any", "b:any", "a:any")
	for what, c := range map[string]struct {
		l    []api.Rule
		fuel int
		want api.Errno
	}{
		"fuel -1":                  {nil, -1, api.ErrRange},
		"fuel 1001":                {nil, 1001, api.ErrRange},
		"fuel before a loop":       {loop, 1001, api.ErrRange},
		"fuel 0, nothing to do":    {rules(t, "a:any", "b:any"), 0, api.OK},
		"fuel 0":                   {chain, 0, api.ErrFuel},
		"fuel 1":                   {chain, 1, api.ErrFuel},
		"fuel for each":            {chain, 2, api.OK},
		"fuel 1000":                {chain, 1000, api.OK},
		"a loop":                   {loop, 1000, api.ErrFuel},
		"too large":                {large, 1000, api.ErrTooLarge},
		"no fuel before too large": {append(slices.Clone(loop), large...), 1000, api.ErrFuel},
		"too large before no fuel": {append(slices.Clone(large), loop...), 1000, api.ErrTooLarge},
	} {
		if l, e := completion.Interreduce(c.l, c.fuel); e != c.want || e != api.OK && len(l) != 0 {
			t.Errorf("%s: %v, %v, not %v", what, l, e, c.want)
		}
	}
}

// P7.1: Interreduce does what the definition says.
func TestInterreduceByDefinition(t *testing.T) {
	r := rand.New(rand.NewPCG(5, 6))
	found, out := map[api.Errno]int{}, 0
	for range 20000 {
		l, fuel := few.rules(r, 6), pick(r, []int{0, 1, 3, 20})
		got, e := completion.Interreduce(l, fuel)
		want, f := refInterreduce(l, fuel)
		if e != f || !slices.EqualFunc(got, want, sameRule) {
			t.Fatalf("%s: %s, %v, not %s, %v", showRules(l), showRules(got), e, showRules(want), f)
		}
		found[e]++
		if e == api.OK && len(got) < len(l) {
			out++
		}
	}
	checkSeen(t, found, 1000, api.OK, api.ErrFuel)
	if out < 500 {
		t.Errorf("%d cases only", out)
	}
}

// P7.1: equal arguments give equal results that share no memory, and arguments
// do not change.
func TestInterreduceSharesNothing(t *testing.T) {
	l := rules(t, "f(g(?x), h(b:any))", "h(g(?x))", "g(?x)", "k(?x, ?x)", "f(?x, g(?x))", "?x", "k(?x, ?y)", "h(?y)")
	before := show(l)
	a, e := completion.Interreduce(l, 10)
	b, f := completion.Interreduce(l, 10)
	if e != api.OK || f != api.OK || len(a) != 2 || show(a) != show(b) {
		t.Errorf("%s, %v, %s, %v", showRules(a), e, showRules(b), f)
	}
	m := memory{}
	m.rules(t, l)
	m.rules(t, a)
	m.rules(t, b)
	if show(l) != before {
		t.Error("an argument has changed")
	}
}
