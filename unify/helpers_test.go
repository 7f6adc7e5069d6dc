package unify_test

import (
	"fmt"
	"math/rand/v2"
	"slices"
	"strings"
	"testing"

	"sealring/api"
	"sealring/subst"
	"sealring/term"
)

func variable(name string, sort int) api.Term {
	return api.Term{Kind: api.TermVar, Name: name, Sort: sort}
}

func atom(name string, sort int) api.Term {
	return api.Term{Kind: api.TermAtom, Name: name, Sort: sort}
}

func app(name string, kids ...api.Term) api.Term {
	return api.Term{Kind: api.TermApp, Name: name, Kids: kids}
}

func bind(x, t api.Term) api.Binding {
	return api.Binding{Var: x, Term: t}
}

// must parses the text of a term that is right.
func must(t *testing.T, s string) api.Term {
	t.Helper()
	x, e := term.Parse(s)
	if e != api.OK {
		t.Fatalf("Parse(%q): %v", s, e)
	}
	return x
}

func mustAll(t *testing.T, texts ...string) []api.Term {
	t.Helper()
	var l []api.Term
	for _, s := range texts {
		l = append(l, must(t, s))
	}
	return l
}

// binds reads a substitution from the texts of its variables and terms, one
// after the other.
func binds(t *testing.T, texts ...string) []api.Binding {
	t.Helper()
	var s []api.Binding
	for i := 0; i < len(texts); i += 2 {
		s = append(s, bind(must(t, texts[i]), must(t, texts[i+1])))
	}
	return s
}

// many returns n different variables or atoms, in order.
func many(leaf func(name string, sort int) api.Term, first string, n int) []api.Term {
	var l []api.Term
	for i := range n {
		l = append(l, leaf(fmt.Sprintf("%s%04d", first, i), api.SortAny))
	}
	return l
}

// tower returns a term of the given depth, in which every node but the lowest
// one has one kid.
func tower(depth int, leaf api.Term) api.Term {
	for range depth - 1 {
		leaf = app("g", leaf)
	}
	return leaf
}

// tree returns a term with the given leaves, in order, and as few other nodes
// as its kids allow: 394 nodes in all for 344 leaves.
func tree(l []api.Term) api.Term {
	for len(l) > 1 {
		var above []api.Term
		for kids := range slices.Chunk(l, api.MaxKids) {
			above = append(above, app("f", kids...))
		}
		l = above
	}
	return l[0]
}

// sized returns a term with n nodes and few levels.
func sized(n int) api.Term {
	kids := []api.Term{}
	for n--; n > 0; {
		size := min(n, max(1, (n+api.MaxKids-len(kids)-1)/(api.MaxKids-len(kids))))
		kids = append(kids, sized(size))
		n -= size
	}
	return app("h", kids...)
}

// same is equality by the definition: nil and empty lists of kids are equal.
func same(a, b api.Term) bool {
	return a.Kind == b.Kind && a.Name == b.Name && a.Sort == b.Sort && sameList(a.Kids, b.Kids)
}

func sameList(a, b []api.Term) bool {
	return slices.EqualFunc(a, b, same)
}

func sameBindings(a, b []api.Binding) bool {
	return slices.EqualFunc(a, b, func(x, y api.Binding) bool { return same(x.Var, y.Var) && same(x.Term, y.Term) })
}

// within reports whether x is one of the subterms of t.
func within(x, t api.Term) bool {
	return same(x, t) || slices.ContainsFunc(t.Kids, func(kid api.Term) bool { return within(x, kid) })
}

// replace replaces the variables of s in t, by the definition.
func replace(s []api.Binding, t api.Term) api.Term {
	for _, b := range s {
		if same(b.Var, t) {
			return b.Term
		}
	}
	u := t
	u.Kids = nil
	for _, kid := range t.Kids {
		u.Kids = append(u.Kids, replace(s, kid))
	}
	return u
}

// replaceAll replaces the variables of s in each term of l.
func replaceAll(s []api.Binding, l []api.Term) []api.Term {
	var m []api.Term
	for _, t := range l {
		m = append(m, replace(s, t))
	}
	return m
}

// suffixed returns t with a suffix behind the names of its variables, which
// must not become too long.
func suffixed(t api.Term, suffix string) api.Term {
	u, e := subst.Rename(t, suffix)
	if e != api.OK {
		panic(e)
	}
	return u
}

// byVariable sorts bindings as substitutions are.
func byVariable(s []api.Binding) []api.Binding {
	slices.SortFunc(s, func(a, b api.Binding) int { return term.Compare(a.Var, b.Var) })
	return s
}

// show writes anything with all that it contains.
func show(x any) string {
	return fmt.Sprintf("%+v", x)
}

// arrays returns the addresses of the lists of kids in some terms, also of
// empty ones behind which there is memory.
func arrays(terms ...api.Term) []*api.Term {
	var l []*api.Term
	for _, t := range terms {
		if cap(t.Kids) > 0 {
			l = append(l, &t.Kids[:1][0])
			l = append(l, arrays(t.Kids...)...)
		}
	}
	return l
}

// apart checks that no two lists of kids of these terms share memory.
func apart(t *testing.T, what string, terms ...api.Term) {
	t.Helper()
	seen := map[*api.Term]bool{}
	for _, p := range arrays(terms...) {
		if seen[p] {
			t.Errorf("%s: memory is shared", what)
			return
		}
		seen[p] = true
	}
}

// sides returns the variables and terms of a substitution.
func sides(s []api.Binding) []api.Term {
	var l []api.Term
	for _, b := range s {
		l = append(l, b.Var, b.Term)
	}
	return l
}

// invalid are terms with their errors.
func invalid() map[string]struct {
	t    api.Term
	want api.Errno
} {
	a := atom("a", api.SortAny)
	return map[string]struct {
		t    api.Term
		want api.Errno
	}{
		"zero term":           {api.Term{}, api.ErrInvalid},
		"variable with a kid": {api.Term{Kind: api.TermVar, Name: "x", Kids: []api.Term{a}}, api.ErrInvalid},
		"sort 6":              {variable("x", 6), api.ErrInvalid},
		"kid without a kind":  {app("f", a, api.Term{}), api.ErrInvalid},
		"no name":             {variable("", api.SortAny), api.ErrSyntax},
		"name too long":       {variable(strings.Repeat("x", api.MaxName+1), api.SortAny), api.ErrSyntax},
		"kid without a name":  {app("f", a, atom("", api.SortAny)), api.ErrSyntax},
		"9 kids":              {app("f", slices.Repeat([]api.Term{a}, 9)...), api.ErrTooLarge},
		"401 nodes":           {sized(401), api.ErrTooLarge},
		"41 levels":           {tower(41, a), api.ErrTooLarge},
	}
}

// A pool has the names and sorts of random terms.
type pool struct {
	names []string
	sorts []int
}

// few has so few leaves that random terms often have some in common.
var few = pool{[]string{"x", "y", "z"}, []int{api.SortAny, api.SortAny, api.SortAny, api.SortNonce, api.SortKey}}

// random returns a valid term with at most the given depth.
func (p pool) random(r *rand.Rand, depth int) api.Term {
	name, sort := p.names[r.IntN(len(p.names))], p.sorts[r.IntN(len(p.sorts))]
	switch kind := r.IntN(8); {
	case kind < 3:
		return variable(name, sort)
	case kind == 3 || depth == 1:
		return atom(name, sort)
	}
	kids := make([]api.Term, r.IntN(4))
	for i := range kids {
		kids[i] = p.random(r, depth-1)
	}
	return app("f", kids...)
}

// bindings returns a valid substitution for some of the variables of l.
func (p pool) bindings(r *rand.Rand, l []api.Term, depth int) []api.Binding {
	var s []api.Binding
	for _, x := range term.Vars(api.Term{Kids: l}) {
		t := p.random(r, depth)
		if x.Sort != api.SortAny {
			t = p.random(r, 1)
			t.Sort = x.Sort
		}
		if r.IntN(4) > 0 && !same(x, t) {
			s = append(s, bind(x, t))
		}
	}
	return s
}

// near returns a term that is like t, but with some other parts.
func (p pool) near(r *rand.Rand, t api.Term) api.Term {
	if r.IntN(5) == 0 {
		return p.random(r, 2)
	}
	u := t
	u.Kids = nil
	for _, kid := range t.Kids {
		u.Kids = append(u.Kids, p.near(r, kid))
	}
	return u
}
