package completion_test

import (
	"math/rand/v2"
	"slices"
	"testing"

	"sealring/api"
	"sealring/completion"
	"sealring/rewrite"
)

// P7.1: Confluent returns the joins of rewrite.Joins for all critical pairs,
// or the index of the first one that does not join.
func TestConfluent(t *testing.T) {
	for what, c := range map[string]struct {
		l    []api.Rule
		fuel int
		n    int // joins, or the index of the pair
		want api.Errno
	}{
		"the example":              {rules(t, "g(g(?x))", "?x", "g(a:any)", "b:any"), 10, 1, api.ErrClash},
		"completed":                {rules(t, "g(g(?x))", "?x", "g(a:any)", "b:any", "g(b:any)", "a:any"), 1, 3, api.OK},
		"completed, without fuel":  {rules(t, "g(g(?x))", "?x", "g(a:any)", "b:any", "g(b:any)", "a:any"), 0, 1, api.ErrFuel},
		"a join without steps":     {rules(t, "f(?x, h())", "?x", "f(h(), ?x)", "?x"), 0, 1, api.OK},
		"associativity":            {rules(t, "f(f(?x, ?y), ?z)", "f(?x, f(?y, ?z))"), 2, 1, api.OK},
		"associativity, less fuel": {rules(t, "f(f(?x, ?y), ?z)", "f(?x, f(?y, ?z))"), 1, 0, api.ErrFuel},
		"no pairs":                 {rules(t, "f(?x)", "g(?x)"), 0, 0, api.OK},
		"no rules":                 {nil, 1000, 0, api.OK},
		"the first one":            {rules(t, "a:any", "b:any", "a:any", "c:any", "b:any", "b:any"), 10, 0, api.ErrFuel},
		"a clash, then no fuel":    {rules(t, "a:any", "b:any", "a:any", "c:any", "d:any", "d:any", "d:any", "d:any"), 10, 0, api.ErrClash},
		"no fuel, then a clash":    {rules(t, "d:any", "d:any", "d:any", "d:any", "a:any", "b:any", "a:any", "c:any"), 10, 0, api.ErrFuel},
		"the third one":            {rules(t, "a:any", "c:any", "a:any", "c:any", "a:any", "c:any", "b:any", "c:any", "b:any", "d:any"), 10, 3, api.ErrClash},
	} {
		l, n, e := completion.Confluent(c.l, c.fuel)
		if e != c.want || e == api.OK && (n != -1 || len(l) != c.n) || e != api.OK && (n != c.n || len(l) != 0) {
			t.Errorf("%s: %v, %d, %v", what, l, n, e)
		}
		if e == api.OK && !completion.CheckConfluent(c.l, l) {
			t.Errorf("%s: not accepted", what)
		}
	}
}

// P7.1: a join that becomes too large has the index of its pair.
func TestConfluentTooLarge(t *testing.T) {
	l := rules(t, "a:any", "b:any", "a:any", "b:any", "f(g(?x))", "h(h(?x, ?x), h(?x, ?x))", "g(c())", "k()")
	l = append(l, api.Rule{Left: app("c"), Right: sized(100)})
	if joins, n, e := completion.Confluent(l, 1000); e != api.ErrTooLarge || n != 1 || len(joins) != 0 {
		t.Errorf("%v, %d, %v", joins, n, e)
	}
	l[4].Right = sized(99)
	if joins, n, e := completion.Confluent(l, 1000); e != api.ErrClash || n != 1 || len(joins) != 0 {
		t.Errorf("%v, %d, %v", joins, n, e)
	}
}

// P7.1: the errors of Confluent, in order. Those before the joins have the
// index -1.
func TestConfluentErrors(t *testing.T) {
	large := slices.Repeat(rules(t, "f(?x)", "?x"), 21)
	for what, c := range invalidRules(t) {
		for _, fuel := range []int{0, 10, -1, 1001} {
			if l, n, e := completion.Confluent(c.l, fuel); e != c.want || n != -1 || len(l) != 0 {
				t.Errorf("%s: %v, %d, %v, not %v", what, l, n, e, c.want)
			}
		}
	}
	for _, fuel := range []int{-1, 1001, -1 << 62, 1 << 62} {
		for _, rules := range [][]api.Rule{nil, large, large[:2]} {
			if l, n, e := completion.Confluent(rules, fuel); e != api.ErrRange || n != -1 || len(l) != 0 {
				t.Errorf("fuel %d: %v, %d, %v", fuel, l, n, e)
			}
		}
	}
	if l, n, e := completion.Confluent(large, 0); e != api.ErrTooLarge || n != -1 || len(l) != 0 {
		t.Errorf("210 pairs: %v, %d, %v", l, n, e)
	}
	// too many pairs, of which the first one does not join
	clash := append(rules(t, "f(?x)", "a:any"), large...)
	if l, n, e := completion.Confluent(clash, 0); e != api.ErrTooLarge || n != -1 || len(l) != 0 {
		t.Errorf("231 pairs: %v, %d, %v", l, n, e)
	}
}

// P7.1: Confluent does what the definition says, and CheckConfluent accepts
// the joins.
func TestConfluentByDefinition(t *testing.T) {
	r := rand.New(rand.NewPCG(3, 4))
	found := map[api.Errno]int{}
	joined := 0
	for range 20000 {
		l, fuel := few.rules(r, 5), pick(r, []int{0, 1, 2, 10, 100})
		got, n, e := completion.Confluent(l, fuel)
		pairs, f := completion.Pairs(l)
		if f != api.OK {
			t.Fatal(f)
		}
		found[e]++
		for i, p := range pairs {
			j, f := rewrite.Joins(l, p.Left, p.Right, fuel)
			if f != api.OK {
				if e != f || n != i || len(got) != 0 {
					t.Fatalf("%s: %d, %v, not %d, %v", showRules(l), n, e, i, f)
				}
				break
			}
			if e == api.OK && (n != -1 || len(got) != len(pairs) || !sameJoin(got[i], j)) {
				t.Fatalf("%s: %v, %d", showRules(l), got, n)
			}
			if e != api.OK && n <= i {
				t.Fatalf("%s: %d, %v", showRules(l), n, e)
			}
		}
		if e == api.OK && !completion.CheckConfluent(l, got) {
			t.Fatalf("%s: not accepted", showRules(l))
		}
		if e == api.OK && len(pairs) > 0 {
			joined++
		}
	}
	checkSeen(t, found, 500, api.OK, api.ErrClash, api.ErrFuel)
	if joined < 300 {
		t.Errorf("%d cases only", joined)
	}
}

// P7.1: CheckConfluent accepts all joins that rewrite.CheckJoin accepts, one
// for each pair in order.
func TestCheckConfluent(t *testing.T) {
	l := rules(t, "g(g(?x))", "?x", "g(a:any)", "b:any", "g(b:any)", "a:any")
	a, b := must(t, "a:any"), must(t, "b:any")
	first := api.Join{Term: must(t, "g(?x#1)")}
	second := api.Join{Right: []api.Redex{redex(2)}, Term: a}
	third := api.Join{Right: []api.Redex{redex(1)}, Term: b}
	clash := rules(t, "g(g(?x))", "?x", "g(a:any)", "b:any")
	loop := rules(t, "a:any", "b:any", "b:any", "a:any", "a:any", "a:any")
	for what, c := range map[string]struct {
		l    []api.Rule
		j    []api.Join
		want bool
	}{
		"right":                      {l, []api.Join{first, second, third}, true},
		"another order":              {l, []api.Join{first, third, second}, false},
		"one is missing":             {l, []api.Join{first, second}, false},
		"the first is missing":       {l, []api.Join{second, third}, false},
		"none":                       {l, nil, false},
		"one more":                   {l, []api.Join{first, second, third, third}, false},
		"one is wrong":               {l, []api.Join{first, second, {Term: b}}, false},
		"one without names":          {l, []api.Join{{Term: must(t, "g(?x)")}, second, third}, false},
		"no rules":                   {nil, nil, true},
		"no rules, a join":           {nil, []api.Join{first}, false},
		"no pairs":                   {rules(t, "f(?x)", "?x"), []api.Join{}, true},
		"not confluent":              {clash, []api.Join{first, {Term: a}}, false},
		"not confluent, other side":  {clash, []api.Join{first, {Term: must(t, "g(b:any)")}}, false},
		"joins that are no normal":   {loop, []api.Join{{Left: []api.Redex{redex(1)}, Term: a}}, true},
		"joins that take turns":      {loop, []api.Join{{Left: []api.Redex{redex(1), redex(0)}, Right: []api.Redex{redex(2), redex(2), redex(0)}, Term: b}}, true},
		"a trace that is not right":  {loop, []api.Join{{Left: []api.Redex{redex(0)}, Term: a}}, false},
		"a position that is no more": {loop, []api.Join{{Left: []api.Redex{redex(1, 0)}, Term: a}}, false},
	} {
		if completion.CheckConfluent(c.l, c.j) != c.want {
			t.Errorf("%s: not %v", what, c.want)
		}
	}
	for what, c := range invalidRules(t) {
		if completion.CheckConfluent(c.l, nil) {
			t.Errorf("%s: accepted", what)
		}
	}
	// 210 pairs, each of which has a join
	many := slices.Repeat(rules(t, "f(?x)", "?x"), 21)
	if completion.CheckConfluent(many, slices.Repeat([]api.Join{{Term: must(t, "?x#0")}}, 210)) {
		t.Error("210 pairs: accepted")
	}
	if !completion.CheckConfluent(many[:20], slices.Repeat([]api.Join{{Term: must(t, "?x#0")}}, 190)) {
		t.Error("190 pairs: not accepted")
	}
}

// P7.1: equal arguments give equal results that share no memory, and arguments
// do not change.
func TestConfluentSharesNothing(t *testing.T) {
	l := rules(t, "g(g(?x))", "?x", "g(a:any)", "h(b:any)", "g(h(b:any))", "a:any", "f(f(?x, ?y), ?z)", "f(?x, f(?y, ?z))")
	before := show(l)
	j, n, e := completion.Confluent(l, 10)
	k, _, f := completion.Confluent(l, 10)
	if e != api.OK || f != api.OK || n != -1 || len(j) != 4 || show(j) != show(k) {
		t.Errorf("%v, %d, %v, %v, %v", j, n, e, k, f)
	}
	made := show(j)
	if !completion.CheckConfluent(l, j) || show(j) != made {
		t.Errorf("%v", j)
	}
	m := memory{}
	m.rules(t, l)
	m.joins(t, j)
	m.joins(t, k)
	if show(l) != before {
		t.Error("an argument has changed")
	}
}
