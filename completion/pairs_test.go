package completion_test

import (
	"math/rand/v2"
	"slices"
	"strings"
	"testing"

	"sealring/api"
	"sealring/completion"
	"sealring/term"
)

// critical reads a critical pair.
func critical(t *testing.T, a, b int, left, right string, at ...int) api.Critical {
	t.Helper()
	return api.Critical{A: a, B: b, Position: at, Left: must(t, left), Right: must(t, right)}
}

// P7.1: critical pairs by rules, and by position.
func TestPairs(t *testing.T) {
	for what, c := range map[string]struct {
		l    []api.Rule
		want []api.Critical
	}{
		"the example": {rules(t, "g(g(?x))", "?x", "g(a:any)", "b:any"), []api.Critical{
			critical(t, 0, 0, "g(?x#1)", "g(?x#1)", 0),
			critical(t, 0, 1, "a:any", "g(b:any)", 0),
		}},
		"completed": {rules(t, "g(g(?x))", "?x", "g(a:any)", "b:any", "g(b:any)", "a:any"), []api.Critical{
			critical(t, 0, 0, "g(?x#1)", "g(?x#1)", 0),
			critical(t, 0, 1, "a:any", "g(b:any)", 0),
			critical(t, 0, 2, "b:any", "g(a:any)", 0),
		}},
		"no rules":                     {nil, nil},
		"a rule with itself at root":   {rules(t, "f(?x)", "g(?x)"), nil},
		"no common symbol":             {rules(t, "f(?x)", "?x", "g(?x)", "?x"), nil},
		"the same rule twice, at root": {rules(t, "f(?x)", "?x", "f(?x)", "?x"), []api.Critical{critical(t, 0, 1, "?x#0", "?x#0")}},
		"at root, from the lesser rule": {rules(t, "f(?x, h())", "?x", "f(h(), ?x)", "?x"), []api.Critical{
			critical(t, 0, 1, "h()", "h()"),
		}},
		"B before A below the root": {rules(t, "g(?x)", "a:any", "f(g(h()))", "b:any"), []api.Critical{
			critical(t, 1, 0, "b:any", "f(a:any)", 0),
		}},
		"both ways below the root": {rules(t, "f(g(?x))", "?x", "g(f(?x))", "?x"), []api.Critical{
			critical(t, 0, 1, "f(?x#1)", "f(?x#1)", 0),
			critical(t, 1, 0, "g(?x#1)", "g(?x#1)", 0),
		}},
		"by position in preorder": {rules(t, "f(g(g(?x)), g(?y))", "f(?y, ?x)", "g(a:any)", "b:any"), []api.Critical{
			critical(t, 0, 1, "f(?y#0, a:any)", "f(g(b:any), g(?y#0))", 0, 0),
			critical(t, 0, 1, "f(a:any, ?x#0)", "f(g(g(?x#0)), b:any)", 1),
		}},
		"no pairs at variables":     {rules(t, "f(?x, ?x)", "?x", "h()", "a:any"), nil},
		"ground rules":              {rules(t, "a:any", "b:any", "f(a:any)", "a:any"), []api.Critical{critical(t, 1, 0, "a:any", "f(b:any)", 0)}},
		"atoms of different sorts":  {rules(t, "f(a:key)", "b:any", "a:any", "b:any"), nil},
		"an atom and a symbol":      {rules(t, "f(a:any)", "b:any", "a()", "b:any"), nil},
		"numbers of kids":           {rules(t, "f(g(?x))", "b:any", "g(?x, ?y)", "b:any"), nil},
		"a clash":                   {rules(t, "f(g(?x, a:any))", "?x", "g(?x, b:any)", "?x"), nil},
		"a variable in itself":      {rules(t, "f(g(?x, ?x))", "?x", "g(?y, h(?y))", "?y"), nil},
		"names with numbers inside": {rules(t, "f(g(?x#1))", "?x#1", "g(?x)", "f(?x)"), []api.Critical{critical(t, 0, 1, "?x#1", "f(f(?x#1))", 0)}},
		"A twice at one place":      {rules(t, "f(f(?x))", "?x"), []api.Critical{critical(t, 0, 0, "f(?x#1)", "f(?x#1)", 0)}},
		"associativity":             {rules(t, "f(f(?x, ?y), ?z)", "f(?x, f(?y, ?z))"), []api.Critical{critical(t, 0, 0, "f(f(?x#1, ?y#1), f(?y#0, ?z#0))", "f(f(?x#1, f(?y#1, ?y#0)), ?z#0)", 0)}},
		"rules that do not end":     {rules(t, "a:any", "a:any", "a:any", "f(a:any)"), []api.Critical{critical(t, 0, 1, "a:any", "f(a:any)")}},
		"B with more variables":     {rules(t, "f(g(?x))", "?x", "g(h(?y, ?z))", "h(?z, ?y)"), []api.Critical{critical(t, 0, 1, "h(?y#1, ?z#1)", "f(h(?z#1, ?y#1))", 0)}},
	} {
		got, e := completion.Pairs(c.l)
		if e != api.OK || !slices.EqualFunc(got, c.want, samePair) {
			t.Errorf("%s: %v, %v, not %v", what, got, e, c.want)
		}
	}
}

// P7.1: the errors of rules, also that of a sort.
func TestPairsOfWrongRules(t *testing.T) {
	for what, c := range invalidRules(t) {
		if l, e := completion.Pairs(c.l); e != c.want || len(l) != 0 {
			t.Errorf("%s: %v, %v, not %v", what, l, e, c.want)
		}
	}
}

// P7.1: names that are too long with a suffix are an error if there is an
// overlap, with or without a unifier.
func TestPairsLongNames(t *testing.T) {
	for length, fits := range map[int]bool{22: true, 23: false, 24: false} {
		x := variable(strings.Repeat("x", length), api.SortAny)
		f, g := api.Rule{Left: app("f", x), Right: x}, rules(t, "g(?x)", "?x")[0]
		inner := api.Rule{Left: app("f", app("g", x)), Right: x}
		drops := api.Rule{Left: app("f", app("g", x)), Right: app("h")}
		for what, c := range map[string]struct {
			l       []api.Rule
			n       int
			overlap bool
		}{
			"no overlap":             {[]api.Rule{f}, 0, false},
			"at root, no unifier":    {[]api.Rule{f, g}, 0, true},
			"the second one at root": {[]api.Rule{g, f}, 0, true},
			"with itself":            {[]api.Rule{inner}, 0, true},
			"below the root":         {[]api.Rule{inner, g}, 1, true},
			"in the left side only":  {[]api.Rule{drops, g}, 1, true},
		} {
			l, e := completion.Pairs(c.l)
			if !fits && c.overlap {
				if e != api.ErrTooLarge || len(l) != 0 {
					t.Errorf("%d bytes, %s: %v, %v", length, what, l, e)
				}
			} else if e != api.OK || len(l) != c.n {
				t.Errorf("%d bytes, %s: %v, %v", length, what, l, e)
			}
		}
	}
}

// P7.1: what is too large: the unifier, and both sides of a pair, but not the
// left side of A, which does not occur in it.
func TestPairsTooLarge(t *testing.T) {
	x, y, z := variable("x", api.SortAny), variable("y", api.SortAny), variable("z", api.SortAny)
	b := atom("b", api.SortAny)
	for what, c := range map[string]struct {
		l    []api.Rule
		want api.Errno
	}{
		"Left with 400 nodes":     {[]api.Rule{{Left: app("f", app("g", x)), Right: app("d", x, x, b)}, {Left: app("g", app("c", sized(198))), Right: b}}, api.OK},
		"Left with 401 nodes":     {[]api.Rule{{Left: app("f", app("g", x)), Right: app("d", x, x, b, b)}, {Left: app("g", app("c", sized(198))), Right: b}}, api.ErrTooLarge},
		"Right with 400 nodes":    {[]api.Rule{{Left: app("f", app("g", x), x), Right: b}, {Left: app("g", app("c", sized(198))), Right: sized(200)}}, api.OK},
		"Right with 401 nodes":    {[]api.Rule{{Left: app("f", app("g", x), x), Right: b}, {Left: app("g", app("c", sized(198))), Right: sized(201)}}, api.ErrTooLarge},
		"Right with 40 levels":    {[]api.Rule{{Left: tower(21, app("f", x)), Right: b}, {Left: app("f", b), Right: tower(20, b)}}, api.OK},
		"Right with 41 levels":    {[]api.Rule{{Left: tower(21, app("f", x)), Right: b}, {Left: app("f", b), Right: tower(21, b)}}, api.ErrTooLarge},
		"A with 401 nodes":        {[]api.Rule{{Left: app("f", app("g", x), x, x), Right: b}, {Left: app("g", app("c", sized(132))), Right: b}}, api.OK},
		"unifier, 399 nodes":      {[]api.Rule{{Left: app("f", app("g", x, z, z)), Right: b}, {Left: app("g", app("d", y, y), y, sized(199)), Right: b}}, api.OK},
		"unifier, 401 nodes":      {[]api.Rule{{Left: app("f", app("g", x, z, z)), Right: b}, {Left: app("g", app("d", y, y), y, sized(200)), Right: b}}, api.ErrTooLarge},
		"unifier before a clash":  {[]api.Rule{{Left: app("f", app("g", x, z, z, b)), Right: b}, {Left: app("g", app("d", y, y), y, sized(200), app("c")), Right: b}}, api.ErrTooLarge},
		"a clash before it":       {[]api.Rule{{Left: app("f", app("g", b, x, z, z)), Right: b}, {Left: app("g", app("c"), app("d", y, y), y, sized(200)), Right: b}}, api.OK},
		"too large, later":        {[]api.Rule{{Left: app("f", app("g", x)), Right: b}, {Left: app("g", app("c")), Right: b}, {Left: app("h", app("g", x), x), Right: b}, {Left: app("g", app("c", sized(198))), Right: sized(201)}}, api.ErrTooLarge},
		"too large, not overlaps": {[]api.Rule{{Left: app("f", app("g", x), x), Right: b}, {Left: app("k", app("c", sized(198))), Right: sized(201)}}, api.OK},
	} {
		want, f := refPairs(c.l)
		l, e := completion.Pairs(c.l)
		if e != f || !slices.EqualFunc(l, want, samePair) {
			t.Errorf("%s: %d pairs, %v, not %v", what, len(l), e, f)
		}
		if e != c.want {
			t.Errorf("%s: %v, not %v", what, e, c.want)
		}
	}
}

// P7.1: there may be 200 pairs, but not 201.
func TestPairsNumber(t *testing.T) {
	for n, want := range map[int]api.Errno{200: api.OK, 201: api.ErrTooLarge, 344: api.ErrTooLarge} {
		kids := slices.Repeat([]api.Term{atom("c", api.SortAny)}, n)
		l := []api.Rule{{Left: tree(kids), Right: atom("b", api.SortAny)}, {Left: kids[0], Right: atom("b", api.SortAny)}}
		p, e := completion.Pairs(l)
		if e != want || e == api.OK && len(p) != n || e != api.OK && len(p) != 0 {
			t.Errorf("%d: %d, %v", n, len(p), e)
		}
		// over several rules
		l = append(l, api.Rule{Left: app("d"), Right: atom("b", api.SortAny)}, api.Rule{Left: app("d"), Right: atom("a", api.SortAny)})
		p, e = completion.Pairs(l)
		if n == 200 {
			want = api.ErrTooLarge
		}
		if e != want {
			t.Errorf("%d and one more: %d, %v", n, len(p), e)
		}
	}
	// all pairs of 20 rules at the root, 190, and of 21 rules, 210
	same := slices.Repeat(rules(t, "f(?x)", "?x"), 21)
	if p, e := completion.Pairs(same[:20]); e != api.OK || len(p) != 190 {
		t.Errorf("20 rules: %d, %v", len(p), e)
	}
	if p, e := completion.Pairs(same); e != api.ErrTooLarge || len(p) != 0 {
		t.Errorf("21 rules: %d, %v", len(p), e)
	}
}

// P7.1: a unifier may bind any number of variables.
func TestPairsManyVariables(t *testing.T) {
	for _, n := range []int{199, 200, 201, 344} {
		x := many(variable, "x", n)
		l := []api.Rule{{Left: tree(x), Right: tree(x)}, {Left: tree(x), Right: app("h", x[n-1], x[0])}}
		p, e := completion.Pairs(l)
		want, f := refPairs(l)
		if e != api.OK || f != api.OK || len(p) == 0 || !slices.EqualFunc(p, want, samePair) {
			t.Errorf("%d variables: %d pairs, %v, not %d, %v", n, len(p), e, len(want), f)
		}
	}
}

// P7.1: Pairs finds what the definition says.
func TestPairsByDefinition(t *testing.T) {
	r := rand.New(rand.NewPCG(1, 2))
	found := map[int]int{}
	for range 10000 {
		l := few.rules(r, 7)
		got, e := completion.Pairs(l)
		want, f := refPairs(l)
		if e != f || !slices.EqualFunc(got, want, samePair) {
			t.Fatalf("%s: %v, %v, not %v, %v", showRules(l), got, e, want, f)
		}
		found[len(got)]++
	}
	checkSeen(t, found, 100, 0, 1, 2, 3, 4, 5, 6)
}

// P7.1: equal arguments give equal results that share no memory, and arguments
// do not change.
func TestPairsShareNothing(t *testing.T) {
	l := rules(t, "f(f(?x, ?y), g(a:any))", "f(?x, h(g(a:any), ?y, ?y))", "g(?x)", "k(?x, ?x, h())", "f(?x, ?x)", "?x")
	before := show(l)
	p, e := completion.Pairs(l)
	q, f := completion.Pairs(l)
	if e != api.OK || f != api.OK || len(p) != 3 || show(p) != show(q) {
		t.Errorf("%v, %v, %v, %v", p, e, q, f)
	}
	m := memory{}
	m.rules(t, l)
	m.pairs(t, p)
	m.pairs(t, q)
	if show(l) != before {
		t.Error("an argument has changed")
	}
	for _, c := range p {
		if _, e := term.At(l[c.A].Left, c.Position); e != api.OK {
			t.Errorf("%v", c)
		}
	}
}
