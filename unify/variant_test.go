package unify_test

import (
	"fmt"
	"math/rand/v2"
	"slices"
	"strings"
	"testing"

	"sealring/api"
	"sealring/subst"
	"sealring/term"
	"sealring/unify"
)

// P3.1: two terms are variants if a one-to-one mapping of variables that keeps
// sorts leads from one to the other.
func TestVariant(t *testing.T) {
	for _, c := range []struct {
		t, u string
		want bool
	}{
		{"?x", "?y", true},
		{"?x", "?x", true},
		{"?x:key", "?y:key", true},
		{"a:any", "a:any", true},
		{"f()", "f()", true},
		{"f(?x, ?y)", "f(?y, ?x)", true},
		{"f(?x, ?y, ?x)", "f(?y, ?z, ?y)", true},
		{"f(?x, g(?y, ?z))", "f(?z, g(?x, ?y))", true},
		{"f(?x, ?x:key)", "f(?x, ?y:key)", true},
		{"f(?x, ?x:key)", "f(?y, ?x:key)", true},
		{"f(?x, a:any, ?y:tag)", "f(?z, a:any, ?z:tag)", true},
		{"f(?x, ?x)", "f(?x, ?y)", false},
		{"f(?x, ?y)", "f(?x, ?x)", false},
		{"f(?x, ?y, ?x)", "f(?x, ?y, ?y)", false},
		{"f(?x, ?y)", "f(?y, ?y)", false},
		{"f(?x, ?y, ?z)", "f(?y, ?z, ?y)", false},
		{"f(?x)", "f(?x:key)", false},
		{"?x:nonce", "?x:key", false},
		{"f(?x, ?y:key)", "f(?y:key, ?x)", false},
		{"a:any", "b:any", false},
		{"a:any", "a:key", false},
		{"f(a:any)", "f(a:key)", false},
		{"a:any", "a()", false},
		{"?a", "a:any", false},
		{"?a", "a()", false},
		{"f(?x)", "g(?x)", false},
		{"f(?x)", "f(?x, ?y)", false},
		{"f(?x, ?y)", "f(?x)", false},
		{"f(?x)", "f()", false},
		{"?x", "f(?x)", false},
	} {
		u, v := must(t, c.t), must(t, c.u)
		if unify.Variant(u, v) != c.want || unify.Variant(v, u) != c.want {
			t.Errorf("%s, %s: not %v", c.t, c.u, c.want)
		}
	}
}

// P3.1: terms that are not valid are neither variants, nor instances, nor
// disjoint from others, and have no most general unifier.
func TestReportsForInvalid(t *testing.T) {
	for what, c := range invalid() {
		for _, u := range []api.Term{c.t, variable("x", api.SortAny), atom("a", api.SortAny), app("f")} {
			for _, l := range [][]api.Term{{c.t, u}, {u, c.t}} {
				if unify.Variant(l[0], l[1]) || unify.Instance(l[0], l[1]) || unify.Disjoint(l[0], l[1]) {
					t.Errorf("%s, %s: true", what, show(u))
				}
				if unify.Disjoint(app("g", l[0]), app("h", l[1])) {
					t.Errorf("%s, %s: disjoint as a kid", what, show(u))
				}
				for _, s := range [][]api.Binding{nil, {bind(variable("x", api.SortAny), atom("a", api.SortAny))}} {
					if unify.MostGeneral(l[0], l[1], s) {
						t.Errorf("%s, %s: a most general unifier", what, show(u))
					}
				}
			}
		}
	}
}

// canonical names the variables of t in the order in which they occur. Terms
// are variants if this makes them equal.
func canonical(t api.Term) api.Term {
	var s []api.Binding
	for _, p := range term.Positions(t) {
		x, _ := term.At(t, p)
		known := slices.ContainsFunc(s, func(b api.Binding) bool { return same(b.Var, x) })
		if x.Kind == api.TermVar && !known {
			s = append(s, bind(x, variable(fmt.Sprintf("v%d", len(s)), x.Sort)))
		}
	}
	return replace(s, t)
}

// P3.1: Variant does what the definition says.
func TestVariantByDefinition(t *testing.T) {
	r := rand.New(rand.NewPCG(7, 8))
	var seen [2]int
	for range 30000 {
		u := few.random(r, 4)
		v := few.near(r, u)
		if r.IntN(2) == 0 {
			// variables become others of the same sort
			v = u
			var s []api.Binding
			for _, x := range term.Vars(u) {
				s = append(s, bind(x, variable(few.names[r.IntN(3)], x.Sort)))
			}
			v = replace(s, v)
		}
		want := same(canonical(u), canonical(v))
		if unify.Variant(u, v) != want {
			t.Fatalf("%s, %s: not %v", show(u), show(v), want)
		}
		if want && !same(u, v) {
			seen[1]++
		} else if !want {
			seen[0]++
		}
	}
	if seen[0] < 1000 || seen[1] < 1000 {
		t.Errorf("seen %v only", seen)
	}
}

// P3.1: MostGeneral accepts every most general unifier, and nothing else.
func TestMostGeneral(t *testing.T) {
	for _, c := range []struct {
		t, u string
		s    []string
		want bool
	}{
		{"a:any", "a:any", nil, true},
		{"f(?x)", "f(?x)", nil, true},
		{"f(?x)", "f(?x)", []string{"?x", "a:any"}, false},
		{"f(?x)", "f(?x)", []string{"?x", "?y"}, true},
		{"f(?x)", "f(?x)", []string{"?x", "?y:key"}, false},
		{"f(?x)", "f(?x)", []string{"?y", "?x"}, false},
		{"a:any", "a:any", []string{"?y", "?x"}, false},
		{"f(?x, ?y)", "f(?x, ?y)", []string{"?x", "?y"}, false},
		{"f(?x, ?y)", "f(?x, ?y)", []string{"?x", "?y", "?y", "?x"}, false}, // not idempotent
		{"f(?x, ?y)", "f(?x, ?y)", []string{"?x", "?v", "?y", "?w"}, true},
		{"f(?x, ?y)", "f(?x, ?y)", []string{"?x", "?v", "?y", "?v"}, false},

		{"f(?x, ?y)", "f(?y, ?z)", []string{"?y", "?x", "?z", "?x"}, true},
		{"f(?x, ?y)", "f(?y, ?z)", []string{"?x", "?y", "?z", "?y"}, true},
		{"f(?x, ?y)", "f(?y, ?z)", []string{"?x", "?z", "?y", "?z"}, true},
		{"f(?x, ?y)", "f(?y, ?z)", []string{"?x", "?w", "?y", "?w", "?z", "?w"}, true},
		{"f(?x, ?y)", "f(?y, ?z)", []string{"?x", "a:any", "?y", "a:any", "?z", "a:any"}, false},
		{"f(?x, ?y)", "f(?y, ?z)", []string{"?x", "?y"}, false},                                 // not equal
		{"f(?x, ?y)", "f(?y, ?z)", nil, false},                                                  // not equal
		{"f(?x, ?y)", "f(?y, ?z)", []string{"?x", "?y", "?y", "?z"}, false},                     // not idempotent
		{"f(?x, ?y)", "f(?y, ?z)", []string{"?z", "?x", "?y", "?x"}, false},                     // not in order
		{"f(?x, ?y)", "f(?y, ?z)", []string{"?y", "?x", "?y", "?x", "?z", "?x"}, false},         // twice
		{"f(?x, ?y)", "f(?y, ?z)", []string{"?x", "?x", "?y", "?x", "?z", "?x"}, false},         // to itself
		{"f(?x, ?y)", "f(?y, ?z)", []string{"?w", "a:any", "?y", "?x", "?z", "?x"}, false},      // another variable
		{"f(?x, ?y)", "f(?y, ?z)", []string{"?x:key", "?y:key", "?y", "?x", "?z", "?x"}, false}, // another variable

		{"?x", "?y:nonce", []string{"?x", "?y:nonce"}, true},
		{"?x", "?y:nonce", []string{"?x", "?z:nonce", "?y:nonce", "?z:nonce"}, true},
		{"?x", "?y:nonce", []string{"?x", "?z:key", "?y:nonce", "?z:key"}, false}, // does not fit
		{"?x", "?y:nonce", []string{"?y:nonce", "?x"}, false},                     // does not fit
		{"?x", "?y:nonce", []string{"?x", "a:nonce", "?y:nonce", "a:nonce"}, false},

		{"f(?x, g(?y))", "f(g(?z), ?x)", []string{"?x", "g(?y)", "?z", "?y"}, true},
		{"f(?x, g(?y))", "f(g(?z), ?x)", []string{"?x", "g(?z)", "?y", "?z"}, true},
		{"f(?x, g(?y))", "f(g(?z), ?x)", []string{"?x", "g(?v)", "?y", "?v", "?z", "?v"}, true},
		{"f(?x, g(?y))", "f(g(?z), ?x)", []string{"?x", "g(a:any)", "?y", "a:any", "?z", "a:any"}, false},
		{"f(?x, g(?y))", "f(g(?z), ?x)", []string{"?x", "g(g(?v))", "?y", "g(?v)", "?z", "g(?v)"}, false},
		{"f(?x, g(?y), ?w)", "f(g(?z), ?x, ?w)", []string{"?w", "?y", "?x", "g(?y)", "?z", "?y"}, false},

		{"a:any", "b:any", nil, false},
		{"?x", "f(?x)", nil, false},
		{"?x", "f(?x)", []string{"?x", "f(?x)"}, false},
		{"?x", "f(?y)", []string{"?x", "f(?y)"}, true},
		{"?x:nonce", "f(?y)", []string{"?x:nonce", "f(?y)"}, false},
	} {
		if unify.MostGeneral(must(t, c.t), must(t, c.u), binds(t, c.s...)) != c.want {
			t.Errorf("%s, %s, %v: not %v", c.t, c.u, c.s, c.want)
		}
	}
}

// P3.1: the limits of MostGeneral.
func TestMostGeneralLimits(t *testing.T) {
	x := variable("x", api.SortAny)
	six := func(last api.Term) api.Term { return app("f", x, x, x, x, x, x, last) }
	if !unify.MostGeneral(six(app("h", x)), six(app("h", sized(100))), []api.Binding{bind(x, sized(100))}) {
		t.Errorf("the terms that are made equal need not be valid")
	}
	if unify.MostGeneral(x, sized(400), []api.Binding{bind(x, sized(401))}) {
		t.Errorf("the substitution must be valid")
	}
	y := variable("y", api.SortAny)
	large := []api.Binding{bind(x, sized(200)), bind(y, sized(200))}
	if unify.MostGeneral(app("f", x, app("h", x, x), x), app("f", sized(200), y, x), large) {
		t.Errorf("there is no unifier")
	}
	for _, n := range []int{200, 201} {
		l, m := many(variable, "x", n), many(atom, "a", n)
		var s []api.Binding
		for i := range l {
			s = append(s, bind(l[i], m[i]))
		}
		if got, e := unify.Unify(tree(l), tree(m)); e != api.OK || !sameBindings(got, s) {
			t.Errorf("%d bindings: %v", n, e)
		}
		if unify.MostGeneral(tree(l), tree(m), s) != (n == 200) {
			t.Errorf("%d bindings: %v", n, n != 200)
		}
		if unify.MostGeneral(tree(l), tree(m), s[1:]) {
			t.Errorf("%d bindings: one may be missing", n)
		}
	}
	l := many(variable, "x", 300)
	if !unify.MostGeneral(tree(l), tree(l), nil) || !unify.MostGeneral(tree(l), tree(l), []api.Binding{bind(l[0], x)}) {
		t.Errorf("300 variables")
	}
}

// refMostGeneral is MostGeneral by the definition, for terms with at most 8
// variables, of which no substitution makes too large ones.
func refMostGeneral(t, u api.Term, s []api.Binding) bool {
	best, e := refLists([]api.Term{t}, []api.Term{u})
	if e != api.OK || subst.Valid(s) != api.OK || !same(replace(s, t), replace(s, u)) {
		return false
	}
	x := term.Vars(app("f", t, u))
	for _, b := range s {
		inside := func(c api.Binding) bool { return within(b.Var, c.Term) }
		if slices.ContainsFunc(s, inside) || !slices.ContainsFunc(x, func(y api.Term) bool { return same(y, b.Var) }) {
			return false
		}
	}
	return same(canonical(app("f", replaceAll(s, x)...)), canonical(app("f", replaceAll(best, x)...)))
}

// P3.1: MostGeneral does what the definition says.
func TestMostGeneralByDefinition(t *testing.T) {
	r := rand.New(rand.NewPCG(9, 10))
	var seen [2]int
	for range 40000 {
		u := few.random(r, 3)
		v := few.near(r, u)
		s, e := unify.Unify(u, v)
		if e == api.OK && !unify.MostGeneral(u, v, s) {
			t.Fatalf("%s, %s: not the unifier", show(u), show(v))
		}
		s = changed(r, s, term.Vars(app("f", u, v)))
		want := refMostGeneral(u, v, s)
		if unify.MostGeneral(u, v, s) != want {
			t.Fatalf("%s, %s, %s: not %v", show(u), show(v), show(s), want)
		}
		switch {
		case want:
			seen[1]++
		case e == api.OK:
			seen[0]++
		}
	}
	if seen[0] < 1000 || seen[1] < 1000 {
		t.Errorf("seen %v only", seen)
	}
}

// changed returns what becomes of s if the variables x are replaced by other
// variables, or sometimes by other terms.
func changed(r *rand.Rand, s []api.Binding, x []api.Term) []api.Binding {
	var by, l []api.Binding
	for i, y := range x {
		switch r.IntN(4) {
		case 0:
			by = append(by, bind(y, variable(fmt.Sprintf("w%d", i), y.Sort)))
		case 1:
			z := x[r.IntN(len(x))]
			by = append(by, bind(y, z), bind(z, y))
		}
	}
	if r.IntN(6) == 0 {
		by = slices.Concat(few.bindings(r, x, 1), by)
	}
	for _, y := range x {
		if u := replace(by, replace(s, y)); !same(y, u) {
			l = append(l, bind(y, u))
		}
	}
	if len(l) > 0 && r.IntN(8) == 0 {
		l = slices.Delete(l, 0, 1)
	}
	return l
}

// P3.1: terms are disjoint if they cannot be unified when they have no
// variable in common.
func TestDisjoint(t *testing.T) {
	for _, c := range []struct {
		t, u string
		want bool
	}{
		{"?x", "?x", false},
		{"?x", "f(?x)", false},
		{"f(?x, a:any)", "f(b:any, ?x)", false},
		{"f(?x, g(?x))", "f(?y, ?y)", true},
		{"f(?x, ?x)", "f(?x, g(?x))", true},
		{"f(?x, ?y)", "f(?x, g(?x))", false},
		{"?x:nonce", "?x", false},
		{"?x:nonce", "?x:key", true},
		{"?x:nonce", "a:nonce", false},
		{"?x:nonce", "a:key", true},
		{"?x:nonce", "f()", true},
		{"a:any", "a:any", false},
		{"a:any", "b:any", true},
		{"a:any", "a()", true},
		{"f(?x)", "g(?x)", true},
		{"f(?x)", "f(?x, ?y)", true},
		{"f(?x, ?x)", "f(a:any, b:any)", true},
		{"f(?x, ?y)", "f(a:any, b:any)", false},
		{"f(?t0, ?u0)", "f(g(?u0), g(?t0))", false},
		{"f(?t1, ?t0)", "f(?u0, ?u1)", false},
	} {
		u, v := must(t, c.t), must(t, c.u)
		if unify.Disjoint(u, v) != c.want || unify.Disjoint(v, u) != c.want {
			t.Errorf("%s, %s: not %v", c.t, c.u, c.want)
		}
	}
}

// P3.1: terms are not disjoint if their common instances are too large only,
// but names may be as long, and variables as many, as in any terms.
func TestDisjointLimits(t *testing.T) {
	x, y := variable("x", api.SortAny), variable("y", api.SortAny)
	if unify.Disjoint(app("f", x, app("h", x, x), x), app("f", sized(200), y, y)) {
		t.Errorf("too large before it occurs")
	}
	if !unify.Disjoint(app("f", x, app("h", x, x), x), app("f", sized(190), y, y)) {
		t.Errorf("it clashes")
	}
	long := strings.Repeat("n", api.MaxName-1)
	u := app("f", variable(long+"1", api.SortAny), variable(long+"2", api.SortAny))
	if unify.Disjoint(u, app("f", app("g", u.Kids[1]), app("g", u.Kids[0]))) {
		t.Errorf("long names")
	}
	if !unify.Disjoint(u, app("f", u.Kids[0])) {
		t.Errorf("long names and a clash")
	}
	l := many(variable, "x", 300)
	m := slices.Clone(l)
	slices.Reverse(m)
	for i := range m {
		m[i] = app("g", m[i])
	}
	if unify.Disjoint(tree(l[:170]), tree(m[:170])) || unify.Disjoint(tree(l), tree(l)) {
		t.Errorf("many variables")
	}
	m[169] = app("g", m[168])
	l[169] = l[168]
	if !unify.Disjoint(tree(l[:170]), tree(m[:170])) {
		t.Errorf("many variables, one of which occurs")
	}
}

// P3.1: Disjoint does what the definition says.
func TestDisjointByDefinition(t *testing.T) {
	r := rand.New(rand.NewPCG(11, 12))
	var seen [2]int
	for range 30000 {
		u := few.random(r, 4)
		v := few.near(r, u)
		_, e := refLists([]api.Term{suffixed(u, "#l")}, []api.Term{suffixed(v, "#r")})
		want := e == api.ErrClash || e == api.ErrOccurs
		if unify.Disjoint(u, v) != want {
			t.Fatalf("%s, %s: not %v", show(u), show(v), want)
		}
		if want {
			seen[1]++
		} else {
			seen[0]++
		}
	}
	if seen[0] < 1000 || seen[1] < 1000 {
		t.Errorf("seen %v only", seen)
	}
}

// P3.1: functions that report something do not change what they are given.
func TestReportsChangeNothing(t *testing.T) {
	u, v := must(t, "f(?x, g(?y:key))"), must(t, "f(g(?z), ?x)")
	s := binds(t, "?x", "g(?y:key)", "?z", "?y:key")
	before := show(u) + show(v) + show(s)
	if !unify.MostGeneral(u, v, s) || unify.Variant(u, v) || unify.Instance(u, v) || unify.Disjoint(u, v) {
		t.Errorf("wrong reports")
	}
	if show(u)+show(v)+show(s) != before {
		t.Errorf("changed: %s, %s, %s", show(u), show(v), show(s))
	}
}
