package subst_test

import (
	"math/rand/v2"
	"slices"
	"testing"

	"sealring/api"
	"sealring/subst"
)

// P2.1: Restrict keeps the bindings whose variables occur in a term of a list.
func TestRestrict(t *testing.T) {
	s := binds(t, "?x", "f(?y, a:any)", "?x:key", "k:key", "?y", "g(?z)", "?z", "?w")
	for _, c := range []struct {
		terms, want []string
	}{
		{nil, nil},
		{[]string{"a:any", "f()", "?w"}, nil},
		{[]string{"?x"}, []string{"?x", "f(?y, a:any)"}},
		{[]string{"?x:key"}, []string{"?x:key", "k:key"}},
		{[]string{"?x:nonce", "x:any", "x()", "?x#0"}, nil},
		{[]string{"f(?y, ?z)", "?x:key"}, []string{"?x:key", "k:key", "?y", "g(?z)", "?z", "?w"}},
		{[]string{"f(g(h(?z)), ?x)", "?z", "?z"}, []string{"?x", "f(?y, a:any)", "?z", "?w"}},
		{[]string{"?z", "?y", "?x:key", "?x"}, []string{"?x", "f(?y, a:any)", "?x:key", "k:key", "?y", "g(?z)", "?z", "?w"}},
	} {
		if l := subst.Restrict(s, mustAll(t, c.terms...)); !sameBindings(l, binds(t, c.want...)) {
			t.Errorf("%v: %s", c.terms, show(l))
		}
	}
	if l := subst.Restrict(nil, mustAll(t, "?x")); len(l) != 0 {
		t.Errorf("no bindings: %s", show(l))
	}
}

// P2.1: Restrict accepts any lists, keeps the order, and what occurs twice;
// variables that are none are compared as a whole.
func TestRestrictAnything(t *testing.T) {
	odd := api.Term{Kind: api.TermVar, Name: "?", Sort: 9, Kids: []api.Term{atom("a", api.SortAny), {}}}
	empty := api.Term{Kind: api.TermApp, Name: "f", Kids: []api.Term{}}
	a, b := atom("a", api.SortAny), atom("b", api.SortAny)
	s := []api.Binding{
		bind(odd, a), bind(b, a), bind(app("g", a, b), odd), bind(empty, a), bind(a, a),
		bind(api.Term{}, b), bind(b, b), bind(app("g", b, a), a), bind(a, a), bind(odd, b),
	}
	for _, c := range []struct {
		l    []api.Term
		want []int
	}{
		{[]api.Term{{}}, []int{5}},
		{[]api.Term{odd}, []int{0, 4, 5, 8, 9}},
		{[]api.Term{app("h", app("g", a, b))}, []int{1, 2, 4, 6, 8}},
		{[]api.Term{app("h", app("f")), b}, []int{1, 3, 6}},
		{[]api.Term{{Kind: api.TermVar, Name: "?", Sort: 9}, app("g", a)}, []int{4, 8}},
	} {
		var want []api.Binding
		for _, i := range c.want {
			want = append(want, s[i])
		}
		if l := subst.Restrict(s, c.l); !sameBindings(l, want) {
			t.Errorf("%s: %s", show(c.l), show(l))
		}
	}
	if l := subst.Restrict(make([]api.Binding, 1000), make([]api.Term, 1000)); len(l) != 1000 {
		t.Errorf("1000 bindings: %d", len(l))
	}
}

// anyLists returns a list of bindings and one of terms, valid or not.
func anyLists(r *rand.Rand) ([]api.Binding, []api.Term) {
	s, l := randomBindings(r, 4, 3), []api.Term{}
	for range r.IntN(4) {
		s = append(s, bind(wild(r, 2), wild(r, 3)), bind(random(r, 2), random(r, 2)))
	}
	for range r.IntN(4) {
		l = append(l, wild(r, 4), random(r, 4))
	}
	r.Shuffle(len(s), func(i, k int) { s[i], s[k] = s[k], s[i] })
	return s, l
}

// P2.1: Restrict and Idempotent do what the definitions say, for any lists.
func TestOccurrencesByDefinition(t *testing.T) {
	r := rand.New(rand.NewPCG(9, 10))
	count := map[bool]int{}
	for range 4000 {
		s, l := anyLists(r)
		if r.IntN(2) == 0 {
			s = s[:min(len(s), 2)]
		}
		var want []api.Binding
		idempotent := true
		for _, b := range s {
			if slices.ContainsFunc(l, func(u api.Term) bool { return within(b.Var, u) }) {
				want = append(want, b)
			}
			if slices.ContainsFunc(s, func(c api.Binding) bool { return within(b.Var, c.Term) }) {
				idempotent = false
			}
		}
		if kept := subst.Restrict(s, l); !sameBindings(kept, want) {
			t.Fatalf("Restrict: %s, %s: %s", show(s), show(l), show(kept))
		}
		if subst.Idempotent(s) != idempotent {
			t.Fatalf("Idempotent: %s: not %v", show(s), idempotent)
		}
		count[idempotent]++
	}
	if count[true] < 100 || count[false] < 100 {
		t.Errorf("not many cases: %v", count)
	}
}

// P2.1: a list is idempotent if none of its variables occurs in its terms.
func TestIdempotent(t *testing.T) {
	for _, c := range []struct {
		want bool
		s    []api.Binding
	}{
		{true, nil},
		{true, []api.Binding{}},
		{true, binds(t, "?x", "a:any")},
		{true, binds(t, "?x", "f(?z, a:any)", "?y", "g(?z)")},
		{true, binds(t, "?x", "f(?x:nonce, x:any, x())")},
		{true, binds(t, "?y", "a:any", "?y", "b:any", "?x", "?x:key")},
		{false, binds(t, "?x", "f(?y, a:any)", "?y", "g(?z)")},
		{false, binds(t, "?x", "a:any", "?y", "g(h(?x))")},
		{false, binds(t, "?x", "g(?x)")},
		{false, binds(t, "?x", "?x")},
		{false, binds(t, "?x", "?y", "?y", "?x")},
		{false, binds(t, "a:any", "a:any")},
		{false, binds(t, "f(?x)", "?y", "?x", "g(f(?x))")},
		{true, binds(t, "f(?x)", "?x", "?y", "g(f(?z))")},
		{false, make([]api.Binding, 1)},
		{true, many("x", 1000, variable("y", api.SortAny))},
		{false, many("x", 1000, variable("x0999", api.SortAny))},
	} {
		if subst.Idempotent(c.s) != c.want {
			t.Errorf("%s: not %v", show(c.s), c.want)
		}
	}
}

// P2.2: a valid idempotent substitution has no further effect when it is
// applied again; one that is not idempotent has.
func TestIdempotentEffect(t *testing.T) {
	r := rand.New(rand.NewPCG(11, 12))
	count := 0
	for range 3000 {
		s, x := randomBindings(r, 4, 3), random(r, 4)
		if !subst.Idempotent(s) {
			continue
		}
		once, e := subst.Apply(s, x)
		twice, f := subst.Apply(s, once)
		if e != api.OK || f != api.OK || !same(once, twice) {
			t.Fatalf("%s, %s: %s, %s", show(s), show(x), show(once), show(twice))
		}
		count++
	}
	if count < 100 {
		t.Errorf("%d idempotent substitutions", count)
	}
}

// P2.2: what is not in a term does not matter for it.
func TestRestrictEffect(t *testing.T) {
	r := rand.New(rand.NewPCG(13, 14))
	for range 3000 {
		s, x := randomBindings(r, 6, 3), random(r, 3)
		kept := subst.Restrict(s, []api.Term{x})
		u, e := subst.Apply(s, x)
		v, f := subst.Apply(kept, x)
		if e != api.OK || f != api.OK || !same(u, v) || subst.Valid(kept) != api.OK {
			t.Fatalf("%s, %s: %s, %s", show(s), show(x), show(u), show(v))
		}
	}
}

// P2.1: what Restrict returns shares no memory with the arguments, which do
// not change.
func TestRestrictSharesNothing(t *testing.T) {
	s := binds(t, "f(f(?x))", "g(g(a:any))", "?x", "h(h(?x))", "f(f(?x))", "k(?y, k(?z))")
	l := mustAll(t, "f(f(?x))", "g(f(f(?x)))")
	before := show(s) + show(l)
	kept, again := subst.Restrict(s, l), subst.Restrict(s, l)
	if !sameBindings(kept, s) || !sameBindings(again, s) {
		t.Errorf("%s, %s", show(kept), show(again))
	}
	apart(t, "Restrict", slices.Concat(sides(s), l, sides(kept), sides(again))...)
	if subst.Idempotent(s) || show(s)+show(l) != before {
		t.Errorf("changed: %s, %s", show(s), show(l))
	}
}
