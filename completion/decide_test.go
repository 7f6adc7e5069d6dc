package completion_test

import (
	"math/rand/v2"
	"testing"

	"sealring/api"
	"sealring/completion"
	"sealring/rewrite"
)

// P7.1: Decide compares the normal forms for the rules, with fuel for each of
// them, and does not ask whether the completion is right.
func TestDecide(t *testing.T) {
	good := twiceCompleted(t)
	c := api.Completion{Rules: rules(t, "f(?x, ?y)", "f(?x)", "g(?x:key)", "?x:key", "a:any", "b:any", "a:any", "c:any", "h()", "h()")}
	for what, c := range map[string]struct {
		c    api.Completion
		t, u string
		fuel int
		yes  bool
		want api.Errno
	}{
		"the example":                {good, "g(b:any)", "a:any", 1, true, api.OK},
		"the example, without fuel":  {good, "g(b:any)", "a:any", 0, false, api.ErrFuel},
		"the example, the other way": {good, "a:any", "g(b:any)", 1, true, api.OK},
		"fuel for each":              {good, "g(g(g(g(?x))))", "g(g(g(g(?x))))", 2, true, api.OK},
		"less fuel":                  {good, "g(g(g(g(?x))))", "g(g(g(g(?x))))", 1, false, api.ErrFuel},
		"less fuel for the second":   {good, "?x", "g(g(?x))", 0, false, api.ErrFuel},
		"different":                  {good, "a:any", "b:any", 5, false, api.OK},
		"variables":                  {good, "?x", "?y", 5, false, api.OK},
		"nothing at all":             {api.Completion{}, "f(?x)", "f(?x)", 0, true, api.OK},
		"nothing, different":         {api.Completion{}, "f(?x)", "f(?y)", 0, false, api.OK},
		"the first rule counts":      {c, "a:any", "b:any", 5, true, api.OK},
		"not the second one":         {c, "a:any", "c:any", 5, false, api.OK},
		"a rule with a sort":         {c, "g(a:key)", "a:key", 5, true, api.OK},
		"a rule with a sort, not it": {c, "g(b:any)", "b:any", 5, false, api.OK},
		"no end":                     {c, "h()", "h()", 1000, false, api.ErrFuel},
		"no end, the second":         {c, "b:any", "h()", 1000, false, api.ErrFuel},
		"no fuel is an error first":  {c, "h()", "a:any", 1001, false, api.ErrRange},
		"fuel -1":                    {good, "?x", "?x", -1, false, api.ErrRange},
	} {
		yes, e := completion.Decide(c.c, must(t, c.t), must(t, c.u), c.fuel)
		if yes != c.yes || e != c.want {
			t.Errorf("%s: %v, %v, not %v, %v", what, yes, e, c.yes, c.want)
		}
	}
}

// P7.1: the errors of Decide, those of the first term first.
func TestDecideErrors(t *testing.T) {
	good, a := twiceCompleted(t), atom("a", 0)
	good.Rules = append(good.Rules, rules(t, "h()", "h()", "d(?x)", "f(?x, ?x)")...)
	endless, large := app("h"), app("d", tree(many(atom, "a", 200)))
	for what, c := range invalid() {
		for _, fuel := range []int{5, -1} {
			if yes, e := completion.Decide(good, c.t, a, fuel); yes || e != c.want {
				t.Errorf("%s: %v, %v, not %v", what, yes, e, c.want)
			}
			if yes, e := completion.Decide(good, c.t, endless, fuel); yes || e != c.want {
				t.Errorf("%s: %v, %v, not %v", what, yes, e, c.want)
			}
		}
		if yes, e := completion.Decide(good, a, c.t, 5); yes || e != c.want {
			t.Errorf("second, %s: %v, %v, not %v", what, yes, e, c.want)
		}
		if yes, e := completion.Decide(good, a, c.t, 1001); yes || e != api.ErrRange {
			t.Errorf("second, %s, fuel: %v, %v", what, yes, e)
		}
		if yes, e := completion.Decide(good, endless, c.t, 5); yes || e != api.ErrFuel {
			t.Errorf("second, %s, no fuel: %v, %v", what, yes, e)
		}
		if yes, e := completion.Decide(good, large, c.t, 5); yes || e != api.ErrTooLarge {
			t.Errorf("second, %s, too large: %v, %v", what, yes, e)
		}
	}
	for what, c := range invalidRules(t) {
		want := rewrite.Valid(c.l)
		yes, e := completion.Decide(api.Completion{Rules: c.l}, a, a, 5)
		if e != want || yes != (want == api.OK) {
			t.Errorf("%s: %v, %v, not %v", what, yes, e, want)
		}
		if want != api.OK {
			if yes, e := completion.Decide(api.Completion{Rules: c.l}, api.Term{}, a, -1); yes || e != want {
				t.Errorf("%s, wrong term and fuel: %v, %v, not %v", what, yes, e, want)
			}
		}
	}
	if yes, e := completion.Decide(good, a, large, 5); yes || e != api.ErrTooLarge {
		t.Errorf("too large: %v, %v", yes, e)
	}
}

// P7.1: Decide does what the definition says, for any rules.
func TestDecideByDefinition(t *testing.T) {
	r := rand.New(rand.NewPCG(15, 16))
	found := map[[2]bool]int{}
	for range 10000 {
		c := api.Completion{Rules: few.rules(r, 4)}
		x, y, fuel := few.instanceIn(r, c.Rules, 3), few.instanceIn(r, c.Rules, 3), r.IntN(20)
		before := show(c) + show(x) + show(y)
		yes, e := completion.Decide(c, x, y, fuel)
		u, _, want := rewrite.Normal(c.Rules, x, fuel)
		v, _, f := rewrite.Normal(c.Rules, y, fuel)
		if want == api.OK {
			want = f
		}
		if e != want || yes != (want == api.OK && same(u, v)) {
			t.Fatalf("%s, %s, %s: %v, %v", showRules(c.Rules), text(x), text(y), yes, e)
		}
		if show(c)+show(x)+show(y) != before {
			t.Fatal("an argument has changed")
		}
		found[[2]bool{yes, e == api.OK}]++
	}
	checkSeen(t, found, 100, [2]bool{true, true}, [2]bool{false, true}, [2]bool{false, false})
}
