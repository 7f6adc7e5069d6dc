package term_test

import (
	"cmp"
	"slices"
	"strings"
	"testing"

	"sealring/api"
	"sealring/term"
)

// byDefinition compares terms as the document says it, level by level.
func byDefinition(a, b api.Term) int {
	if term.Size(a) != term.Size(b) {
		return cmp.Compare(term.Size(a), term.Size(b))
	}
	if a.Kind != b.Kind {
		return cmp.Compare(a.Kind, b.Kind)
	}
	if a.Name != b.Name {
		return strings.Compare(a.Name, b.Name)
	}
	if a.Sort != b.Sort {
		return cmp.Compare(a.Sort, b.Sort)
	}
	if len(a.Kids) != len(b.Kids) {
		return cmp.Compare(len(a.Kids), len(b.Kids))
	}
	return slices.CompareFunc(a.Kids, b.Kids, byDefinition)
}

// P1.1: each criterion decides if those before it do not.
func TestCompareCriteria(t *testing.T) {
	any := api.SortAny
	a, z := atom("a", any), atom("z", any)
	for what, c := range map[string]struct{ a, b api.Term }{
		"size before kind":           {app("f"), api.Term{Kind: api.TermVar, Name: "a", Kids: []api.Term{a}}},
		"size before name":           {z, app("f", a)},
		"size before number of kids": {app("f", a, a), app("f", app("g", app("g", a)))},
		"kind before name":           {variable("z", any), atom("a", any)},
		"atoms before applications":  {z, app("a")},
		"kind below all":             {api.Term{Kind: -1, Name: "z"}, api.Term{Name: "a"}},
		"name before sort":           {atom("a", api.SortTag), atom("b", any)},
		"names bytewise":             {atom("Z", any), atom("a", any)},
		"beginning of a name":        {atom("aa", any), atom("aaa", any)},
		"# before letters":           {atom("a#z", any), atom("aa", any)},
		"bytes without sign":         {atom("a~", any), atom("a\xff", any)},
		"sort":                       {atom("a", any), atom("a", api.SortAgent)},
		"sort of variables":          {variable("x", api.SortData), variable("x", api.SortTag)},
		"sort before number of kids": {api.Term{Kind: 3, Name: "f", Sort: 0, Kids: []api.Term{a, a}}, api.Term{Kind: 3, Name: "f", Sort: 1, Kids: []api.Term{app("g", a)}}},
		"number of kids before kids": {app("f", app("g", z)), app("f", a, a)},
		"first kid":                  {app("f", a, z), app("f", z, a)},
		"second kid":                 {app("f", a, a), app("f", a, z)},
		"size of the first kid":      {app("f", z, app("g", a)), app("f", app("g", a), a)},
		"kids of kids":               {app("f", app("g", a, z), z), app("f", app("g", z, a), a)},
	} {
		if term.Compare(c.a, c.b) != -1 || term.Compare(c.b, c.a) != 1 {
			t.Errorf("%s: %d, %d", what, term.Compare(c.a, c.b), term.Compare(c.b, c.a))
		}
	}
	empty := api.Term{Kind: api.TermApp, Name: "f", Kids: []api.Term{}}
	if term.Compare(app("f"), empty) != 0 || term.Compare(app("g", empty), app("g", app("f"))) != 0 {
		t.Error("nil and empty lists of kids differ")
	}
}

// P1.1: Compare is what the document says, for any terms.
func TestCompareByDefinition(t *testing.T) {
	l := samples(150, 4)
	for _, a := range l {
		for _, b := range l {
			if c := term.Compare(a, b); c != byDefinition(a, b) {
				t.Fatalf("%s, %s: %d", show(a), show(b), c)
			}
		}
	}
}

// P1.2: Compare is a total order, and equality is that of terms.
func TestTotalOrder(t *testing.T) {
	l := samples(40, 3)
	for _, a := range l {
		for _, b := range l {
			c := term.Compare(a, b)
			if c != -term.Compare(b, a) || (c == 0) != same(a, b) {
				t.Fatalf("%s, %s: %d", show(a), show(b), c)
			}
			for _, d := range l {
				if c <= 0 && term.Compare(b, d) <= 0 && term.Compare(a, d) != min(c, term.Compare(b, d)) {
					t.Fatalf("not transitive: %s, %s, %s", show(a), show(b), show(d))
				}
			}
		}
	}
}

// P1.2: a proper subterm comes before the term.
func TestSubtermsComeBefore(t *testing.T) {
	for _, x := range samples(200, 5) {
		for _, p := range term.Positions(x) {
			u, e := term.At(x, p)
			if c := term.Compare(u, x); e != api.OK || len(p) > 0 && c != -1 || len(p) == 0 && c != 0 {
				t.Fatalf("%s at %v: %d, %v", show(x), p, c, e)
			}
		}
	}
}

// P1.1: the sets of variables, atoms and subterms, of valid terms.
func TestSets(t *testing.T) {
	x := must(t, "f(g(?y, ?x:key, b:data), ?x, a:any, g(?y, ?x:key, b:data), a:nonce, a:any, ?x)")
	if l := term.Vars(x); !sameList(l, mustAll(t, "?x", "?x:key", "?y")) {
		t.Errorf("Vars: %v", l)
	}
	if l := term.Atoms(x); !sameList(l, mustAll(t, "a:any", "a:nonce", "b:data")) {
		t.Errorf("Atoms: %v", l)
	}
	want := append(mustAll(t, "?x", "?x:key", "?y", "a:any", "a:nonce", "b:data", "g(?y, ?x:key, b:data)"), x)
	if l := term.Subterms([]api.Term{x}); !sameList(l, want) {
		t.Errorf("Subterms: %v", l)
	}
	list := mustAll(t, "g(h())", "a:any", "h()", "g(h())", "f(a:any, a:any)")
	if l := term.Subterms(list); !sameList(l, mustAll(t, "a:any", "h()", "g(h())", "f(a:any, a:any)")) {
		t.Errorf("Subterms of a list: %v", l)
	}
}

// P1.1: where there are no subterms of a kind, the lists are empty.
func TestEmptySets(t *testing.T) {
	if l := term.Vars(must(t, "f(a:any)")); len(l) != 0 {
		t.Errorf("Vars: %v", l)
	}
	if l := term.Atoms(must(t, "f(?x, g())")); len(l) != 0 {
		t.Errorf("Atoms: %v", l)
	}
	if l := term.Subterms(nil); len(l) != 0 {
		t.Errorf("Subterms: %v", l)
	}
	if l := term.Subterms([]api.Term{}); len(l) != 0 {
		t.Errorf("Subterms of an empty list: %v", l)
	}
}

// P1.1: in terms that are not valid, each node counts, by its Kind.
func TestSetsOfInvalidTerms(t *testing.T) {
	a := atom("a", api.SortAny)
	inner := api.Term{Kind: api.TermVar, Name: "?", Sort: 9, Kids: []api.Term{a}}
	outer := api.Term{Kind: api.TermVar, Kids: []api.Term{inner, {}}}
	root := api.Term{Kind: api.TermAtom, Name: "z", Kids: []api.Term{outer, inner, outer}}
	if l := term.Vars(root); !sameList(l, []api.Term{inner, outer}) {
		t.Errorf("Vars: %v", l)
	}
	if l := term.Atoms(root); !sameList(l, []api.Term{a, root}) {
		t.Errorf("Atoms: %v", l)
	}
	if l := term.Subterms([]api.Term{root}); !sameList(l, []api.Term{{}, a, inner, outer, root}) {
		t.Errorf("Subterms: %v", l)
	}
}

// P1.1: the sets are what stands at the positions, each once, in order.
func TestSetsByDefinition(t *testing.T) {
	for _, x := range samples(150, 5) {
		var all []api.Term
		for _, p := range term.Positions(x) {
			u, _ := term.At(x, p)
			if !slices.ContainsFunc(all, func(v api.Term) bool { return same(u, v) }) {
				all = append(all, u)
			}
		}
		slices.SortFunc(all, byDefinition)
		if l := term.Subterms([]api.Term{x, x}); !sameList(l, all) {
			t.Fatalf("Subterms of %s: %v", show(x), l)
		}
		vars := slices.DeleteFunc(slices.Clone(all), func(u api.Term) bool { return u.Kind != api.TermVar })
		atoms := slices.DeleteFunc(slices.Clone(all), func(u api.Term) bool { return u.Kind != api.TermAtom })
		if !sameList(term.Vars(x), vars) || !sameList(term.Atoms(x), atoms) {
			t.Fatalf("%s: %v, %v", show(x), term.Vars(x), term.Atoms(x))
		}
	}
}

// P1.1: results share no memory with arguments or among themselves.
func TestSetsShareNothing(t *testing.T) {
	l := mustAll(t, "f(g(a:any, ?x), h(g(a:any, ?x)))", "g(a:any, ?x)")
	before := show(app("all", l...))
	apart(t, "Subterms", append(term.Subterms(l), l...)...)
	odd := api.Term{Kind: api.TermVar, Kids: []api.Term{{Kind: api.TermAtom, Kids: l}, {Kind: api.TermVar, Kids: mustAll(t, "a:any")}}}
	apart(t, "Vars", append(term.Vars(odd), odd)...)
	apart(t, "Atoms", append(term.Atoms(odd), odd)...)
	if show(app("all", l...)) != before {
		t.Error("an argument has changed")
	}
}
