package order_test

import (
	"fmt"
	"math/rand/v2"
	"slices"
	"strings"
	"testing"

	"sealring/api"
	"sealring/term"
)

// letters is the precedence of most tests.
var letters = []string{"a", "b", "f", "g"}

func variable(name string, sort int) api.Term {
	return api.Term{Kind: api.TermVar, Name: name, Sort: sort}
}

func atom(name string, sort int) api.Term {
	return api.Term{Kind: api.TermAtom, Name: name, Sort: sort}
}

func app(name string, kids ...api.Term) api.Term {
	return api.Term{Kind: api.TermApp, Name: name, Kids: kids}
}

// must parses the text of a term that is right.
func must(t *testing.T, s string) api.Term {
	t.Helper()
	x, e := term.Parse(s)
	if e != api.OK {
		t.Fatalf("Parse(%q): %v", s, e)
	}
	return x
}

func mustAll(t *testing.T, texts ...string) []api.Term {
	t.Helper()
	var l []api.Term
	for _, s := range texts {
		l = append(l, must(t, s))
	}
	return l
}

// rule reads a rule from the texts of its sides.
func rule(t *testing.T, left, right string) api.Rule {
	t.Helper()
	return api.Rule{Left: must(t, left), Right: must(t, right)}
}

// names returns n different names.
func names(n int) []string {
	var l []string
	for i := range n {
		l = append(l, fmt.Sprintf("n%d", i))
	}
	return l
}

// tower returns a term of the given depth, in which every node but the lowest
// one has one kid.
func tower(name string, depth int, leaf api.Term) api.Term {
	for range depth - 1 {
		leaf = app(name, leaf)
	}
	return leaf
}

// sized returns a term with n nodes and few levels.
func sized(n int) api.Term {
	kids := []api.Term{}
	for n--; n > 0; {
		size := min(n, max(1, (n+api.MaxKids-len(kids)-1)/(api.MaxKids-len(kids))))
		kids = append(kids, sized(size))
		n -= size
	}
	return app("h", kids...)
}

// same is equality by the definition: nil and empty lists of kids are equal.
func same(a, b api.Term) bool {
	return a.Kind == b.Kind && a.Name == b.Name && a.Sort == b.Sort && sameList(a.Kids, b.Kids)
}

func sameList(a, b []api.Term) bool {
	return slices.EqualFunc(a, b, same)
}

// replace replaces a variable by a term, everywhere in t.
func replace(x, by, t api.Term) api.Term {
	if same(x, t) {
		return by
	}
	u := t
	u.Kids = nil
	for _, kid := range t.Kids {
		u.Kids = append(u.Kids, replace(x, by, kid))
	}
	return u
}

// show writes anything with all that it contains.
func show(x any) string {
	return fmt.Sprintf("%+v", x)
}

// arrays returns the addresses of the lists of kids in some terms, also of
// empty ones behind which there is memory.
func arrays(terms ...api.Term) []*api.Term {
	var l []*api.Term
	for _, t := range terms {
		if cap(t.Kids) > 0 {
			l = append(l, &t.Kids[:1][0])
			l = append(l, arrays(t.Kids...)...)
		}
	}
	return l
}

// apart checks that no two lists of kids of these terms share memory.
func apart(t *testing.T, what string, terms ...api.Term) {
	t.Helper()
	seen := map[*api.Term]bool{}
	for _, p := range arrays(terms...) {
		if seen[p] {
			t.Errorf("%s: memory is shared", what)
			return
		}
		seen[p] = true
	}
}

// invalid are terms with their errors.
func invalid() map[string]struct {
	t    api.Term
	want api.Errno
} {
	a := atom("a", api.SortAny)
	return map[string]struct {
		t    api.Term
		want api.Errno
	}{
		"zero term":           {api.Term{}, api.ErrInvalid},
		"variable with a kid": {api.Term{Kind: api.TermVar, Name: "x", Kids: []api.Term{a}}, api.ErrInvalid},
		"sort 6":              {variable("x", 6), api.ErrInvalid},
		"kid without a kind":  {app("f", a, api.Term{}), api.ErrInvalid},
		"no name":             {variable("", api.SortAny), api.ErrSyntax},
		"name too long":       {atom(strings.Repeat("x", api.MaxName+1), api.SortAny), api.ErrSyntax},
		"kid without a name":  {app("f", a, atom("", api.SortAny)), api.ErrSyntax},
		"9 kids":              {app("f", slices.Repeat([]api.Term{a}, 9)...), api.ErrTooLarge},
		"401 nodes":           {sized(401), api.ErrTooLarge},
		"41 levels":           {tower("f", 41, a), api.ErrTooLarge},
	}
}

// badLists are lists that are no precedences, with their errors.
func badLists() map[string]struct {
	l    []string
	want api.Errno
} {
	return map[string]struct {
		l    []string
		want api.Errno
	}{
		"41 names":                {names(41), api.ErrTooLarge},
		"41 empty names":          {make([]string, 41), api.ErrTooLarge},
		"41 names, the same":      {slices.Repeat([]string{"a"}, 41), api.ErrTooLarge},
		"no name":                 {[]string{"a", ""}, api.ErrSyntax},
		"a digit first":           {[]string{"1a"}, api.ErrSyntax},
		"# first":                 {[]string{"#a"}, api.ErrSyntax},
		"_ first":                 {[]string{"_a"}, api.ErrSyntax},
		"a question mark":         {[]string{"?a"}, api.ErrSyntax},
		"a space":                 {[]string{"a b"}, api.ErrSyntax},
		"another letter":          {[]string{"\u00e4"}, api.ErrSyntax},
		"an atom":                 {[]string{"a:any"}, api.ErrSyntax},
		"25 bytes":                {[]string{strings.Repeat("x", 25)}, api.ErrSyntax},
		"the same name":           {[]string{"a", "a"}, api.ErrExists},
		"the same name later":     {[]string{"a", "b", "c", "b", "d"}, api.ErrExists},
		"the same before no name": {[]string{"a", "a", ""}, api.ErrExists},
		"no name before the same": {[]string{"a", "", "a"}, api.ErrSyntax},
		"no name twice":           {[]string{"", ""}, api.ErrSyntax},
		"40 names, the last same": {append(names(39), "n0"), api.ErrExists},
	}
}

// A pool has what random terms are made of.
type pool struct {
	variables, atoms, unary, others []string
	sorts                           []int
}

// plain has variables, and names that are used for everything.
var plain = pool{[]string{"x", "y"}, letters, letters, letters, []int{api.SortAny, api.SortAny, api.SortKey}}

// ground has no variables.
var ground = pool{nil, letters, letters, letters, []int{api.SortAny, api.SortAny, api.SortKey}}

// careful uses the last letter for applications with one kid only.
var careful = pool{[]string{"x", "y"}, letters[:3], letters, letters[:3], []int{api.SortAny, api.SortAny, api.SortKey}}

// carefulGround has no variables.
var carefulGround = pool{nil, letters[:3], letters, letters[:3], []int{api.SortAny, api.SortAny, api.SortKey}}

func pick[T any](r *rand.Rand, l []T) T {
	return l[r.IntN(len(l))]
}

// random returns a valid term with at most the given depth.
func (p pool) random(r *rand.Rand, depth int) api.Term {
	switch kind := r.IntN(10); {
	case kind < 3 && len(p.variables) > 0:
		return variable(pick(r, p.variables), pick(r, p.sorts))
	case kind < 4 || depth == 1:
		return atom(pick(r, p.atoms), pick(r, p.sorts))
	case kind < 7:
		return app(pick(r, p.unary), p.random(r, depth-1))
	}
	kids := make([]api.Term, pick(r, []int{0, 2, 2, 2, 3}))
	for i := range kids {
		kids[i] = p.random(r, depth-1)
	}
	return app(pick(r, p.others), kids...)
}

// near returns a term that is like t, but with some other parts.
func (p pool) near(r *rand.Rand, t api.Term) api.Term {
	switch r.IntN(12) {
	case 0:
		return p.random(r, 2)
	case 1:
		return app(pick(r, p.unary), t)
	case 2:
		if len(t.Kids) > 0 {
			return pick(r, t.Kids)
		}
	}
	u := t
	u.Kids = nil
	for _, kid := range t.Kids {
		u.Kids = append(u.Kids, p.near(r, kid))
	}
	return u
}
