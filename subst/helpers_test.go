package subst_test

import (
	"fmt"
	"math/rand/v2"
	"slices"
	"strings"
	"testing"

	"sealring/api"
	"sealring/term"
)

func variable(name string, sort int) api.Term {
	return api.Term{Kind: api.TermVar, Name: name, Sort: sort}
}

func atom(name string, sort int) api.Term {
	return api.Term{Kind: api.TermAtom, Name: name, Sort: sort}
}

func app(name string, kids ...api.Term) api.Term {
	return api.Term{Kind: api.TermApp, Name: name, Kids: kids}
}

func bind(x, t api.Term) api.Binding {
	return api.Binding{Var: x, Term: t}
}

// must parses the text of a term that is right.
func must(t *testing.T, s string) api.Term {
	t.Helper()
	x, e := term.Parse(s)
	if e != api.OK {
		t.Fatalf("Parse(%q): %v", s, e)
	}
	return x
}

func mustAll(t *testing.T, texts ...string) []api.Term {
	t.Helper()
	var l []api.Term
	for _, s := range texts {
		l = append(l, must(t, s))
	}
	return l
}

// binds reads a substitution from the texts of its variables and terms, one
// after the other.
func binds(t *testing.T, texts ...string) []api.Binding {
	t.Helper()
	var s []api.Binding
	for i := 0; i < len(texts); i += 2 {
		s = append(s, bind(must(t, texts[i]), must(t, texts[i+1])))
	}
	return s
}

// names returns n names of the same length, in order.
func names(first string, n int) []string {
	var l []string
	for i := range n {
		l = append(l, fmt.Sprintf("%s%04d", first, i))
	}
	return l
}

// many returns a substitution that binds n variables to the same term.
func many(first string, n int, t api.Term) []api.Binding {
	var s []api.Binding
	for _, name := range names(first, n) {
		s = append(s, bind(variable(name, api.SortAny), t))
	}
	return s
}

// tower returns a term of the given depth, in which every node but the lowest
// one has one kid.
func tower(depth int, leaf api.Term) api.Term {
	for range depth - 1 {
		leaf = app("g", leaf)
	}
	return leaf
}

// leaves returns a term with n times the same leaf, and as few other nodes as
// its kids allow: 394 nodes in all for 344 leaves.
func leaves(n int, leaf api.Term) api.Term {
	l := slices.Repeat([]api.Term{leaf}, n)
	for len(l) > 1 {
		var above []api.Term
		for kids := range slices.Chunk(l, api.MaxKids) {
			above = append(above, app("f", kids...))
		}
		l = above
	}
	return l[0]
}

// same is equality by the definition: nil and empty lists of kids are equal.
func same(a, b api.Term) bool {
	return a.Kind == b.Kind && a.Name == b.Name && a.Sort == b.Sort && sameList(a.Kids, b.Kids)
}

func sameList(a, b []api.Term) bool {
	return slices.EqualFunc(a, b, same)
}

func sameBindings(a, b []api.Binding) bool {
	return slices.EqualFunc(a, b, func(x, y api.Binding) bool { return same(x.Var, y.Var) && same(x.Term, y.Term) })
}

// within reports whether x is one of the subterms of t.
func within(x, t api.Term) bool {
	return same(x, t) || slices.ContainsFunc(t.Kids, func(kid api.Term) bool { return within(x, kid) })
}

// replace replaces the variables of s in t, by the definition.
func replace(s []api.Binding, t api.Term) api.Term {
	for _, b := range s {
		if same(b.Var, t) {
			return b.Term
		}
	}
	u := t
	u.Kids = nil
	for _, kid := range t.Kids {
		u.Kids = append(u.Kids, replace(s, kid))
	}
	return u
}

// show writes anything with all that it contains.
func show(x any) string {
	return fmt.Sprintf("%+v", x)
}

// arrays returns the addresses of the lists of kids in some terms, also of
// empty ones behind which there is memory.
func arrays(terms ...api.Term) []*api.Term {
	var l []*api.Term
	for _, t := range terms {
		if cap(t.Kids) > 0 {
			l = append(l, &t.Kids[:1][0])
			l = append(l, arrays(t.Kids...)...)
		}
	}
	return l
}

// apart checks that no two lists of kids of these terms share memory.
func apart(t *testing.T, what string, terms ...api.Term) {
	t.Helper()
	seen := map[*api.Term]bool{}
	for _, p := range arrays(terms...) {
		if seen[p] {
			t.Errorf("%s: memory is shared", what)
			return
		}
		seen[p] = true
	}
}

// sides returns the variables and terms of a substitution.
func sides(s []api.Binding) []api.Term {
	var l []api.Term
	for _, b := range s {
		l = append(l, b.Var, b.Term)
	}
	return l
}

// invalid are terms with their errors.
func invalid() map[string]struct {
	t    api.Term
	want api.Errno
} {
	a := atom("a", api.SortAny)
	return map[string]struct {
		t    api.Term
		want api.Errno
	}{
		"zero term":           {api.Term{}, api.ErrInvalid},
		"variable with a kid": {api.Term{Kind: api.TermVar, Name: "x", Kids: []api.Term{a}}, api.ErrInvalid},
		"sort 6":              {variable("x", 6), api.ErrInvalid},
		"kid without a kind":  {app("f", a, api.Term{}), api.ErrInvalid},
		"no name":             {variable("", api.SortAny), api.ErrSyntax},
		"name too long":       {variable(strings.Repeat("x", api.MaxName+1), api.SortAny), api.ErrSyntax},
		"kid without a name":  {app("f", a, atom("", api.SortAny)), api.ErrSyntax},
		"9 kids":              {app("f", slices.Repeat([]api.Term{a}, 9)...), api.ErrTooLarge},
		"41 levels":           {tower(41, a), api.ErrTooLarge},
	}
}

// random returns a valid term with at most the given depth, which has few
// different variables.
func random(r *rand.Rand, depth int) api.Term {
	name := []string{"x", "y", "z", "x#1"}[r.IntN(4)]
	sort := []int{api.SortAny, api.SortAny, api.SortNonce, api.SortKey}[r.IntN(4)]
	switch kind := r.IntN(5); {
	case kind < 2:
		return variable(name, sort)
	case kind == 2 || depth == 1:
		return atom(name, sort)
	}
	kids := make([]api.Term, r.IntN(4))
	for i := range kids {
		kids[i] = random(r, depth-1)
	}
	return app(name, kids...)
}

// randomBindings returns a valid substitution with at most n bindings.
func randomBindings(r *rand.Rand, n, depth int) []api.Binding {
	var s []api.Binding
	for range n {
		x, t := random(r, 1), random(r, depth)
		bound := slices.ContainsFunc(s, func(b api.Binding) bool { return same(b.Var, x) })
		if x.Kind == api.TermVar && !same(x, t) && (x.Sort == api.SortAny || x.Sort == t.Sort) && !bound {
			s = append(s, bind(x, t))
		}
	}
	slices.SortFunc(s, func(a, b api.Binding) int { return term.Compare(a.Var, b.Var) })
	return s
}

// wild returns a term that need not be valid.
func wild(r *rand.Rand, depth int) api.Term {
	t := api.Term{Kind: r.IntN(3), Name: []string{"", "a"}[r.IntN(2)], Sort: r.IntN(2) * 9}
	if depth > 1 {
		for range r.IntN(3) {
			t.Kids = append(t.Kids, wild(r, depth-1))
		}
	}
	return t
}
