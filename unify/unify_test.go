package unify_test

import (
	"math/rand/v2"
	"slices"
	"testing"

	"sealring/api"
	"sealring/term"
	"sealring/unify"
)

// unifyCases are terms with their unifiers, or the error that there is none.
var unifyCases = []struct {
	t, u string
	want []string
	e    api.Errno
}{
	// equal terms
	{"?x", "?x", nil, api.OK},
	{"?x:key", "?x:key", nil, api.OK},
	{"a:any", "a:any", nil, api.OK},
	{"f()", "f()", nil, api.OK},
	{"f(?x, g(?y:nonce), a:key)", "f(?x, g(?y:nonce), a:key)", nil, api.OK},

	// applications, whose kids are unified in order
	{"f(?x, ?y)", "f(?y, a:any)", []string{"?x", "a:any", "?y", "a:any"}, api.OK},
	{"f(?x, g(?y))", "f(g(?y), ?x)", []string{"?x", "g(?y)"}, api.OK},
	{"f(?x, g(?y))", "f(g(?z), ?x)", []string{"?x", "g(?y)", "?z", "?y"}, api.OK},
	{"f(?x, ?y, ?z)", "f(g(?y, ?y), g(?z, ?z), a:any)", []string{"?x", "g(g(a:any, a:any), g(a:any, a:any))", "?y", "g(a:any, a:any)", "?z", "a:any"}, api.OK},
	{"f(?a, ?b, ?c)", "f(?b, ?c, ?a)", []string{"?b", "?a", "?c", "?a"}, api.OK},
	{"f(?c, ?b, ?d)", "f(?b, ?a, ?c)", []string{"?b", "?a", "?c", "?a", "?d", "?a"}, api.OK},
	{"x(x:any, ?x)", "x(?y, x())", []string{"?x", "x()", "?y", "x:any"}, api.OK},
	{"f(?x)", "f(?x, ?x)", nil, api.ErrClash},
	{"f()", "f(?x)", nil, api.ErrClash},
	{"f(?x)", "g(?x)", nil, api.ErrClash},
	{"a()", "a:any", nil, api.ErrClash},
	{"a:any", "b:any", nil, api.ErrClash},
	{"a:any", "a:key", nil, api.ErrClash},
	{"a:tag", "a:data", nil, api.ErrClash},

	// two variables: the sort decides before the order does
	{"?x", "?y", []string{"?y", "?x"}, api.OK},
	{"?y", "?x", []string{"?y", "?x"}, api.OK},
	{"?x:key", "?y:key", []string{"?y:key", "?x:key"}, api.OK},
	{"?y:agent", "?x:agent", []string{"?y:agent", "?x:agent"}, api.OK},
	{"?Z", "?a", []string{"?a", "?Z"}, api.OK},
	{"?x1", "?x", []string{"?x1", "?x"}, api.OK},
	{"?x", "?y:nonce", []string{"?x", "?y:nonce"}, api.OK},
	{"?y", "?x:nonce", []string{"?y", "?x:nonce"}, api.OK},
	{"?x:nonce", "?y", []string{"?y", "?x:nonce"}, api.OK},
	{"?y:tag", "?x", []string{"?x", "?y:tag"}, api.OK},
	{"?x", "?x:data", []string{"?x", "?x:data"}, api.OK},
	{"?x:nonce", "?y:key", nil, api.ErrClash},
	{"?x:agent", "?x:tag", nil, api.ErrClash},
	{"f(?x, ?x)", "f(?y:nonce, ?y:key)", nil, api.ErrClash},
	{"f(?x, ?x, ?y)", "f(?y, ?z:key, a:key)", []string{"?x", "a:key", "?y", "a:key", "?z:key", "a:key"}, api.OK},
	{"f(?x, ?y, ?x)", "f(?z:nonce, ?w:key, ?y)", nil, api.ErrClash},

	// one variable
	{"?x", "a:nonce", []string{"?x", "a:nonce"}, api.OK},
	{"g(a:any)", "?x", []string{"?x", "g(a:any)"}, api.OK},
	{"?x:nonce", "a:nonce", []string{"?x:nonce", "a:nonce"}, api.OK},
	{"x:data", "?x:data", []string{"?x:data", "x:data"}, api.OK},
	{"?x", "x()", []string{"?x", "x()"}, api.OK},
	{"?x", "g(?x:key)", []string{"?x", "g(?x:key)"}, api.OK},
	{"?x:nonce", "b:key", nil, api.ErrClash},
	{"?x:nonce", "b:any", nil, api.ErrClash},
	{"b:any", "?x:key", nil, api.ErrClash},
	{"?x:nonce", "g()", nil, api.ErrClash},
	{"g(?y)", "?x:nonce", nil, api.ErrClash},
	{"?x", "f(?x)", nil, api.ErrOccurs},
	{"f(a:any, g(?x))", "?x", nil, api.ErrOccurs},
	{"?x:nonce", "f(?x:nonce)", nil, api.ErrClash},
	{"f(?x, ?y)", "f(g(?y), g(?x))", nil, api.ErrOccurs},
	{"f(?x, ?y, ?z)", "f(?y, ?z, g(?x))", nil, api.ErrOccurs},

	// the first pair that has an error counts
	{"f(a:any, ?x)", "f(b:any, g(?x))", nil, api.ErrClash},
	{"f(?x, a:any)", "f(g(?x), b:any)", nil, api.ErrOccurs},
	{"f(g(?x, a:any), ?x)", "f(g(b:any, b:any), g(?x))", nil, api.ErrClash},
	{"f(g(?x, ?y), a:any)", "f(g(?y, g(?x)), b:any)", nil, api.ErrOccurs},
}

// P3.1: the unifier of two terms.
func TestUnify(t *testing.T) {
	for _, c := range unifyCases {
		l, e := unify.Unify(must(t, c.t), must(t, c.u))
		if e != c.e || !sameBindings(l, binds(t, c.want...)) {
			t.Errorf("%s, %s: %s, %v", c.t, c.u, show(l), e)
		}
	}
}

// P3.1: Lists unifies the terms of two lists in order, with one substitution.
func TestLists(t *testing.T) {
	for _, c := range []struct {
		l, m, want []string
		e          api.Errno
	}{
		{nil, nil, nil, api.OK},
		{[]string{"?x"}, []string{"a:any"}, []string{"?x", "a:any"}, api.OK},
		{[]string{"?x", "?y"}, []string{"g(?y)", "a:any"}, []string{"?x", "g(a:any)", "?y", "a:any"}, api.OK},
		{[]string{"?y", "?x"}, []string{"?z", "?y"}, []string{"?y", "?x", "?z", "?x"}, api.OK},
		{[]string{"f()", "?x", "a:any"}, []string{"f()", "?x", "a:any"}, nil, api.OK},
		{[]string{"?x", "?x"}, []string{"a:any", "b:any"}, nil, api.ErrClash},
		{[]string{"?x", "?y"}, []string{"g(?y)", "?x"}, nil, api.ErrOccurs},
		{[]string{"?x", "a:any"}, []string{"g(?x)", "b:any"}, nil, api.ErrOccurs},
		{[]string{"a:any", "?x"}, []string{"b:any", "g(?x)"}, nil, api.ErrClash},
	} {
		l, e := unify.Lists(mustAll(t, c.l...), mustAll(t, c.m...))
		if e != c.e || !sameBindings(l, binds(t, c.want...)) {
			t.Errorf("%v, %v: %s, %v", c.l, c.m, show(l), e)
		}
	}
	for _, c := range unifyCases {
		for n := range 3 {
			l, m := slices.Repeat(mustAll(t, c.t), n), slices.Repeat(mustAll(t, c.u), n)
			s, e := unify.Lists(l, m)
			if n == 0 && (e != api.OK || len(s) != 0) || n > 0 && (e != c.e || !sameBindings(s, binds(t, c.want...))) {
				t.Errorf("%d times %s, %s: %s, %v", n, c.t, c.u, show(s), e)
			}
		}
	}
}

// P3.1: empty lists may be nil or not.
func TestEmptyLists(t *testing.T) {
	for _, l := range [][]api.Term{nil, {}} {
		for _, m := range [][]api.Term{nil, {}} {
			if s, e := unify.Lists(l, m); e != api.OK || len(s) != 0 {
				t.Errorf("%s, %v", show(s), e)
			}
		}
	}
	x, y := app("f", variable("x", 0), app("h")), app("f", app("h"), variable("y", 0))
	x.Kids[1].Kids, x.Kids[0].Kids = []api.Term{}, []api.Term{}
	if s, e := unify.Unify(x, y); e != api.OK || !sameBindings(s, binds(t, "?x", "h()", "?y", "h()")) {
		t.Errorf("%s, %v", show(s), e)
	}
}

// P3.1: the errors of arguments come first, in their order.
func TestUnifyErrors(t *testing.T) {
	a, b := atom("a", api.SortAny), atom("b", api.SortAny)
	check := func(what string, l, m []api.Term, want api.Errno) {
		t.Helper()
		if s, e := unify.Lists(l, m); e != want || len(s) != 0 {
			t.Errorf("Lists, %s: %s, %v, not %v", what, show(s), e, want)
		}
		if len(l) != 1 || len(m) != 1 {
			return
		}
		if s, e := unify.Unify(l[0], m[0]); e != want || len(s) != 0 {
			t.Errorf("Unify, %s: %s, %v, not %v", what, show(s), e, want)
		}
	}
	one, zero := []api.Term{a}, make([]api.Term, api.MaxTerms+1)
	for what, c := range invalid() {
		check(what, []api.Term{c.t}, one, c.want)
		check(what, one, []api.Term{c.t}, c.want)
		check(what+", no term", []api.Term{c.t}, nil, c.want)
		check(what+", no term", nil, []api.Term{c.t}, c.want)
		check(what+", behind a clash", []api.Term{a, c.t}, []api.Term{b, a}, c.want)
		check(what+", behind a clash", []api.Term{a, a}, []api.Term{b, c.t}, c.want)
		check(what+", 201 terms", []api.Term{c.t}, zero, api.ErrTooLarge)
		check(what+", 201 terms", zero, []api.Term{c.t}, api.ErrTooLarge)
		for other, d := range invalid() {
			check(what+" before "+other, []api.Term{c.t}, []api.Term{d.t}, c.want)
			check(what+" before "+other, []api.Term{a, c.t, d.t}, []api.Term{d.t}, c.want)
			check(what+" before "+other, nil, []api.Term{a, c.t, d.t}, c.want)
		}
	}
	check("one and none", one, nil, api.ErrArity)
	check("none and one", nil, one, api.ErrArity)
	check("two and three, with a clash", []api.Term{a, a}, []api.Term{b, b, b}, api.ErrArity)
}

// P3.1: lists have at most 200 terms.
func TestListsLimits(t *testing.T) {
	for _, c := range []struct {
		n, m int
		want api.Errno
	}{
		{199, 199, api.OK}, {200, 200, api.OK}, {201, 201, api.ErrTooLarge}, {200, 201, api.ErrTooLarge}, {201, 0, api.ErrTooLarge}, {0, 201, api.ErrTooLarge}, {200, 199, api.ErrArity},
	} {
		s, e := unify.Lists(many(variable, "x", c.n), many(atom, "a", c.m))
		if e != c.want || e == api.OK && len(s) != c.n || e != api.OK && len(s) != 0 {
			t.Errorf("%d, %d: %d, %v", c.n, c.m, len(s), e)
		}
		for i, b := range s {
			if want := bind(many(variable, "x", c.n)[i], many(atom, "a", c.m)[i]); !sameBindings(s[i:i+1], []api.Binding{want}) {
				t.Errorf("%s, not %s", show(b), show(want))
			}
		}
	}
}

// P3.1: a unifier may have more bindings than substitutions that are valid.
func TestManyBindings(t *testing.T) {
	x, a := many(variable, "x", 344), many(atom, "a", 344)
	s, e := unify.Unify(tree(x), tree(a))
	if e != api.OK || len(s) != len(x) {
		t.Fatalf("%d, %v", len(s), e)
	}
	for i, b := range s {
		if !same(b.Var, x[i]) || !same(b.Term, a[i]) {
			t.Errorf("%s", show(b))
		}
	}
}

// A refPair is a pair of terms.
type refPair struct{ a, b api.Term }

// refLists unifies lists word by word as the definition does.
func refLists(l, m []api.Term) ([]api.Binding, api.Errno) {
	var pairs []refPair
	for i := range l {
		pairs = append(pairs, refPair{l[i], m[i]})
	}
	var s []api.Binding
	for len(pairs) > 0 {
		a, b := pairs[0].a, pairs[0].b
		pairs = pairs[1:]
		if same(a, b) {
			continue
		}
		if a.Kind == api.TermApp && b.Kind == api.TermApp && a.Name == b.Name && len(a.Kids) == len(b.Kids) {
			var kids []refPair
			for i := range a.Kids {
				kids = append(kids, refPair{a.Kids[i], b.Kids[i]})
			}
			pairs = append(kids, pairs...)
			continue
		}
		one, e := refBinding(a, b)
		if e != api.OK {
			return nil, e
		}
		if s, pairs = refBind(one, s, pairs); !refValid(s, pairs) {
			return nil, api.ErrTooLarge
		}
	}
	return byVariable(s), api.OK
}

// refBinding returns the binding that a pair leads to.
func refBinding(a, b api.Term) (api.Binding, api.Errno) {
	switch {
	case a.Kind == api.TermVar && b.Kind == api.TermVar:
		switch {
		case a.Sort == b.Sort && term.Compare(a, b) > 0:
			return bind(a, b), api.OK
		case a.Sort == b.Sort:
			return bind(b, a), api.OK
		case a.Sort == api.SortAny:
			return bind(a, b), api.OK
		case b.Sort == api.SortAny:
			return bind(b, a), api.OK
		}
		return api.Binding{}, api.ErrClash
	case b.Kind == api.TermVar:
		a, b = b, a
	case a.Kind != api.TermVar:
		return api.Binding{}, api.ErrClash
	}
	if a.Sort != api.SortAny && !(b.Kind == api.TermAtom && b.Sort == a.Sort) {
		return api.Binding{}, api.ErrClash
	}
	if within(a, b) {
		return api.Binding{}, api.ErrOccurs
	}
	return bind(a, b), api.OK
}

// refBind puts in a term for a variable everywhere.
func refBind(one api.Binding, s []api.Binding, pairs []refPair) ([]api.Binding, []refPair) {
	l := []api.Binding{one}
	var changed []refPair
	for _, p := range pairs {
		changed = append(changed, refPair{replace(l, p.a), replace(l, p.b)})
	}
	for i := range s {
		s[i].Term = replace(l, s[i].Term)
	}
	return append(s, one), changed
}

// refValid reports whether all terms are valid.
func refValid(s []api.Binding, pairs []refPair) bool {
	for _, p := range pairs {
		if term.Valid(p.a) != api.OK || term.Valid(p.b) != api.OK {
			return false
		}
	}
	return !slices.ContainsFunc(s, func(b api.Binding) bool { return term.Valid(b.Term) != api.OK })
}

// checkLists compares Lists with the definition, and returns the error.
func checkLists(t *testing.T, l, m []api.Term) api.Errno {
	t.Helper()
	s, e := unify.Lists(l, m)
	want, f := refLists(l, m)
	if e != f || !sameBindings(s, want) {
		t.Fatalf("%s, %s: %s, %v, not %s, %v", show(l), show(m), show(s), e, show(want), f)
	}
	return e
}

// checkSeen checks that random arguments have led to all of these errors
// often enough.
func checkSeen(t *testing.T, seen map[api.Errno]int, least int, errors ...api.Errno) {
	t.Helper()
	for _, e := range errors {
		if seen[e] < least {
			t.Errorf("error %v: seen %d times only", e, seen[e])
		}
	}
}

// P3.1: Unify and Lists do what the definition says.
func TestUnifyByDefinition(t *testing.T) {
	r := rand.New(rand.NewPCG(1, 2))
	seen := map[api.Errno]int{}
	for range 20000 {
		x := few.random(r, 5)
		y := few.near(r, x)
		if r.IntN(2) == 0 {
			x = replace(few.bindings(r, []api.Term{x}, 2), x)
		}
		e := checkLists(t, []api.Term{x}, []api.Term{y})
		if s, f := unify.Unify(x, y); f != e || f != api.OK && len(s) != 0 {
			t.Fatalf("%s, %s: %s, %v, not %v", show(x), show(y), show(s), f, e)
		}
		seen[e]++
	}
	for range 20000 {
		var l, m []api.Term
		for range r.IntN(6) {
			x := few.random(r, 3)
			l, m = append(l, x), append(m, few.near(r, x))
		}
		seen[checkLists(t, l, m)]++
	}
	checkSeen(t, seen, 500, api.OK, api.ErrClash, api.ErrOccurs)
}

// growing returns lists that lead to terms which grow to the limits, and maybe
// beyond them, from the last variables to the first ones.
func growing(r *rand.Rand) (l, m []api.Term) {
	x := many(variable, "x", 10)
	n := 2 + r.IntN(6)
	for i := range n {
		var kids []api.Term
		for range 1 + r.IntN(4) {
			kids = append(kids, x[min(i+1+r.IntN(2), n)])
		}
		u := app("g", kids...)
		if r.IntN(3) == 0 {
			u = tower(1+r.IntN(12), u)
		}
		l, m = append(l, x[i]), append(m, u)
	}
	l, m = append(l, x[n]), append(m, sized(1+r.IntN(60)))
	for range r.IntN(3) {
		l, m = append(l, app("f", x[r.IntN(n)], x[r.IntN(n)])), append(m, app("f", few.random(r, 2), few.random(r, 2)))
	}
	if r.IntN(2) == 0 {
		y := app("h", slices.Repeat([]api.Term{x[r.IntN(n)]}, r.IntN(9))...)
		l, m = append(l, y), append(m, y)
	}
	if r.IntN(4) == 0 {
		l, m = append(l, x[n-1]), append(m, app("g", x[r.IntN(2)]))
	}
	r.Shuffle(len(l), func(i, j int) {
		l[i], l[j], m[i], m[j] = l[j], l[i], m[j], m[i]
	})
	return l, m
}

// P3.1: terms that are too large or too deep are noticed before what comes
// behind them.
func TestTooLargeByDefinition(t *testing.T) {
	r := rand.New(rand.NewPCG(3, 4))
	seen := map[api.Errno]int{}
	for range 3000 {
		l, m := growing(r)
		e := checkLists(t, l, m)
		seen[e]++
		if len(l) <= api.MaxKids {
			if s, f := unify.Unify(app("f", l...), app("f", m...)); f != e || f != api.OK && len(s) != 0 {
				t.Fatalf("%s, %s: %v, not %v", show(l), show(m), f, e)
			}
		}
	}
	checkSeen(t, seen, 100, api.OK, api.ErrClash, api.ErrOccurs, api.ErrTooLarge)
}

// P3.1: terms of the substitution and of pairs have at most 400 nodes and 40
// levels.
func TestUnifyLimits(t *testing.T) {
	x, y, z, a, b := variable("x", 0), variable("y", 0), variable("z", 0), atom("a", 0), atom("b", 0)
	check := func(what string, want api.Errno, l ...api.Term) {
		t.Helper()
		var left, right []api.Term
		for i := 0; i < len(l); i += 2 {
			left, right = append(left, l[i]), append(right, l[i+1])
		}
		if s, e := unify.Lists(left, right); e != want || e != api.OK && len(s) != 0 {
			t.Errorf("%s: %v, not %v", what, e, want)
		}
		if s, e := unify.Lists(right, left); e != want || e != api.OK && len(s) != 0 {
			t.Errorf("%s: %v, not %v", what, e, want)
		}
	}
	f2 := func(t api.Term) api.Term { return app("f", t, t) }
	check("400 nodes", api.OK, x, sized(400))
	check("400 nodes in a binding", api.OK, x, app("f", y, y, y), y, sized(133))
	check("403 nodes in a binding", api.ErrTooLarge, x, app("f", y, y, y), y, sized(134))
	check("401 nodes in a binding", api.ErrTooLarge, x, f2(y), y, sized(200))
	check("399 nodes in a binding", api.OK, x, f2(y), y, sized(199))
	check("400 nodes in a pair", api.OK, x, sized(133), app("f", x, x, x), z)
	check("401 nodes in a pair", api.ErrTooLarge, x, sized(200), f2(x), z)
	check("401 nodes in an equal pair", api.ErrTooLarge, x, sized(200), f2(x), f2(x))
	check("399 nodes in an equal pair", api.OK, x, sized(199), f2(x), f2(x))
	check("40 levels in a binding", api.OK, x, tower(21, y), y, tower(20, a))
	check("41 levels in a binding", api.ErrTooLarge, x, tower(21, y), y, tower(21, a))
	check("40 levels in a pair", api.OK, y, tower(20, a), tower(21, y), z)
	check("41 levels in a pair", api.ErrTooLarge, y, tower(21, a), tower(21, y), z)

	check("a pair taken away does not count", api.OK, f2(x), f2(z), x, sized(300))
	check("a pair that is left counts", api.ErrTooLarge, x, sized(300), f2(x), f2(z))
	check("too large before a clash", api.ErrTooLarge, x, sized(200), a, b, f2(x), z)
	check("too large before a clash, in a binding", api.ErrTooLarge, z, f2(x), x, sized(200), a, b)
	check("too large before what occurs", api.ErrTooLarge, x, sized(200), y, app("g", y), f2(x), z)
	check("a clash before too large", api.ErrClash, a, b, x, sized(200), f2(x), z)
	check("what occurs before too large", api.ErrOccurs, y, app("g", y), x, sized(200), f2(x), z)
	check("too large before a clash of this pair", api.ErrTooLarge, x, sized(200), app("f", x, x, a), app("f", x, x, b))
	check("the pair with the clash is taken away", api.ErrClash, x, sized(133), app("f", x, x, x), app("f", x, x))
}

// P3.1: kids count in pairs of their own when their application is taken away.
func TestUnifyLimitsOfKids(t *testing.T) {
	x, a, b, z := variable("x", 0), atom("a", 0), atom("b", 0), variable("z", 0)
	six := func(last api.Term) api.Term { return app("f", x, x, x, x, x, x, last) }
	s, e := unify.Unify(six(app("h", x)), six(app("h", sized(100))))
	if e != api.OK || !sameBindings(s, []api.Binding{bind(x, sized(100))}) {
		t.Errorf("the kids are not too large: %v", e)
	}
	behind := func(c api.Term) api.Term { return app("f", c, app("k", x, x, x, x, x), z) }
	if s, e := unify.Unify(behind(x), behind(sized(79))); e != api.OK || len(s) != 1 {
		t.Errorf("400 nodes behind: %v", e)
	}
	if s, e := unify.Unify(behind(x), behind(sized(80))); e != api.ErrTooLarge || len(s) != 0 {
		t.Errorf("405 nodes behind: %v", e)
	}
	if s, e := unify.Unify(app("f", x, a, app("k", x, x)), app("f", sized(390), b, app("k", a, a))); e != api.ErrTooLarge || len(s) != 0 {
		t.Errorf("781 nodes behind a clash: %v", e)
	}
}

// P3.1: whatever the lists, Lists comes to an end in good time.
func TestListsEnds(t *testing.T) {
	big := func(name func(i int) string) (l []api.Term) {
		for i := range api.MaxTerms {
			var leaves []api.Term
			for j := range 344 {
				leaves = append(leaves, variable(name(344*i+j), 0))
			}
			l = append(l, tree(leaves))
		}
		return l
	}
	digits := func(first string, n int) string {
		b := []byte{}
		for range 5 {
			b = append(b, byte('0'+n%10))
			n /= 10
		}
		slices.Reverse(b)
		return first + string(b)
	}
	all := 344 * api.MaxTerms
	// Each variable is bound to another one, and none of them to the next one.
	s, e := unify.Lists(big(func(i int) string { return digits("x", i) }), big(func(i int) string { return digits("y", i) }))
	if e != api.OK || len(s) != all || s[all-1].Var.Name != digits("y", all-1) || s[all-1].Term.Name != digits("x", all-1) {
		t.Errorf("pairs: %d, %v", len(s), e)
	}
	// All variables are bound to the first one, but from the last one on.
	s, e = unify.Lists(big(func(i int) string { return digits("x", all-i) }), big(func(i int) string { return digits("x", all-i-1) }))
	if e != api.OK || len(s) != all || s[all-1].Var.Name != digits("x", all) || s[all-1].Term.Name != digits("x", 0) {
		t.Errorf("a chain: %d, %v", len(s), e)
	}
	// Terms that would have 8^199 nodes.
	x := many(variable, "x", 201)
	var m []api.Term
	for i := range 200 {
		m = append(m, app("f", slices.Repeat(x[i+1:i+2], 8)...))
	}
	if s, e := unify.Lists(x[:200], m); e != api.ErrTooLarge || len(s) != 0 {
		t.Errorf("terms that grow: %v", e)
	}
}

// P3.1: equal arguments give equal results that share no memory with one
// another, within themselves, or with the arguments, which do not change.
func TestUnifySharesNothing(t *testing.T) {
	u := must(t, "f(?x, ?y, h(?z), ?w)")
	v := must(t, "f(h(?y, ?y), h(?z), ?a, g(g(b:any)))")
	before := show(u) + show(v)
	s, e := unify.Unify(u, v)
	w, f := unify.Unify(u, v)
	l, g := unify.Lists([]api.Term{u, u}, []api.Term{v, v})
	if e != api.OK || f != api.OK || g != api.OK || !sameBindings(s, w) || !sameBindings(s, l) {
		t.Errorf("%s, %s, %s", show(s), show(w), show(l))
	}
	apart(t, "Unify and Lists", slices.Concat(sides(s), sides(w), sides(l), []api.Term{u, v})...)
	if show(u)+show(v) != before {
		t.Errorf("changed: %s, %s", show(u), show(v))
	}
}
