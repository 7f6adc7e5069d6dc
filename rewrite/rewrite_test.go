package rewrite_test

import (
	"slices"
	"testing"

	"sealring/api"
	"sealring/rewrite"
)

// P5.1: which rules are valid.
func TestValid(t *testing.T) {
	x := many(variable, "x", 344)
	for what, l := range map[string][]api.Rule{
		"nil":                      nil,
		"empty":                    {},
		"a projection":             rules(t, "f(?x, ?y)", "?x"),
		"the same on both sides":   rules(t, "f(?x)", "f(?x)"),
		"an atom":                  rules(t, "a:any", "b:key"),
		"no kids":                  rules(t, "f()", "f(f())"),
		"all variables twice":      rules(t, "f(?x, ?x, ?y)", "g(?y, ?x, ?y, ?x)"),
		"a variable deep below":    rules(t, "f(g(g(g(?x:tag))))", "?x:tag"),
		"two of the same name":     rules(t, "f(?x, ?x:key)", "f(?x:key, ?x)"),
		"the same rule twice":      rules(t, "f(?x)", "?x", "f(?x)", "?x"),
		"the same Left":            rules(t, "f(?x)", "?x", "f(?x)", "a:any"),
		"another rule's variables": rules(t, "f(?x)", "?x", "g(?y)", "?y"),
		"40 rules":                 slices.Repeat(rules(t, "f(?x)", "?x"), 40),
		"344 variables":            {{Left: tree(x), Right: tree(reversed(x))}},
		"400 nodes":                {{Left: sized(400), Right: sized(400)}},
		"40 levels":                {{Left: tower(40, x[0]), Right: tower(40, x[0])}},
	} {
		if e := rewrite.Valid(l); e != api.OK {
			t.Errorf("%s: %v", what, e)
		}
	}
	for what, c := range invalidRules(t) {
		if e := rewrite.Valid(c.l); e != c.want {
			t.Errorf("%s: %v, not %v", what, e, c.want)
		}
	}
}

// P5.1: the number of rules counts first; then the first rule that is wrong,
// and what is wrong with it first.
func TestValidErrorsInOrder(t *testing.T) {
	a, x, y := atom("a", api.SortAny), variable("x", api.SortAny), variable("y", api.SortAny)
	f := app("f", x)
	large := api.Rule{Left: tower(41, a), Right: a}
	noName := api.Rule{Left: a, Right: atom("", api.SortAny)}
	for what, c := range map[string]struct {
		l    []api.Rule
		want api.Errno
	}{
		"41 wrong rules":                     {make([]api.Rule, 41), api.ErrTooLarge},
		"40 wrong rules":                     {make([]api.Rule, 40), api.ErrInvalid},
		"Left before Right":                  {[]api.Rule{{Left: large.Left, Right: noName.Right}}, api.ErrTooLarge},
		"Left without a name before Right":   {[]api.Rule{{Left: noName.Right, Right: large.Left}}, api.ErrSyntax},
		"Right before Left is a variable":    {[]api.Rule{{Left: x, Right: noName.Right}}, api.ErrSyntax},
		"variable not valid":                 {[]api.Rule{{Left: variable("", 0), Right: a}}, api.ErrSyntax},
		"Left is a variable before unbound":  {[]api.Rule{{Left: x, Right: y}}, api.ErrInvalid},
		"the first rule, large":              {[]api.Rule{large, noName, {Left: x, Right: a}}, api.ErrTooLarge},
		"the first rule, no name":            {[]api.Rule{noName, large, {Left: x, Right: a}}, api.ErrSyntax},
		"the first rule, a variable":         {[]api.Rule{{Left: x, Right: a}, noName, large}, api.ErrInvalid},
		"the first rule, unbound":            {[]api.Rule{{Left: f, Right: y}, {Left: x, Right: a}, noName}, api.ErrUnbound},
		"behind a rule that is right":        {[]api.Rule{{Left: f, Right: x}, {Left: f, Right: y}}, api.ErrUnbound},
		"a variable of Left in another rule": {[]api.Rule{{Left: f, Right: x}, {Left: app("f", y), Right: x}}, api.ErrUnbound},
		"one variable of several":            {[]api.Rule{{Left: app("f", x, y), Right: app("g", x, variable("z", 0), y)}}, api.ErrUnbound},
		"an atom of this name":               {[]api.Rule{{Left: app("x", atom("x", 0)), Right: x}}, api.ErrUnbound},
	} {
		if e := rewrite.Valid(c.l); e != c.want {
			t.Errorf("%s: %v, not %v", what, e, c.want)
		}
	}
}
