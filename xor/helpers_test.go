package xor_test

import (
	"fmt"
	"math/rand/v2"
	"slices"
	"strings"
	"testing"

	"sealring/api"
	"sealring/term"
	"sealring/xor"
)

func atom(name string, sort int) api.Term {
	return api.Term{Kind: api.TermAtom, Name: name, Sort: sort}
}

func app(name string, kids ...api.Term) api.Term {
	return api.Term{Kind: api.TermApp, Name: name, Kids: kids}
}

// must parses the text of a term that is right.
func must(t *testing.T, s string) api.Term {
	t.Helper()
	x, e := term.Parse(s)
	if e != api.OK {
		t.Fatalf("Parse(%q): %v", s, e)
	}
	return x
}

// all parses the texts of terms.
func all(t *testing.T, texts ...string) []api.Term {
	t.Helper()
	var l []api.Term
	for _, s := range texts {
		l = append(l, must(t, s))
	}
	return l
}

// letters reads terms from words: a word of one letter is an atom, "0" stands
// for zero(), and other words for the xor of their letters.
func letters(s string) []api.Term {
	var l []api.Term
	for _, word := range strings.Fields(s) {
		var kids []api.Term
		for _, name := range strings.Split(word, "") {
			kids = append(kids, atom(name, api.SortAny))
		}
		switch {
		case word == "0":
			l = append(l, app("zero"))
		case len(kids) == 1:
			l = append(l, kids...)
		default:
			l = append(l, app("xor", kids...))
		}
	}
	return l
}

// letter reads a single term.
func letter(s string) api.Term {
	return letters(s)[0]
}

// many returns n different atoms, in ascending order.
func many(first string, n int) []api.Term {
	var l []api.Term
	for i := range n {
		l = append(l, atom(fmt.Sprintf("%s%05d", first, i), api.SortAny))
	}
	return l
}

// chain returns n sums of two: each one has a summand in common with the next.
func chain(n int) []api.Term {
	var l []api.Term
	a := many("a", n+1)
	for i := range n {
		l = append(l, app("xor", a[i+1], a[i]))
	}
	return l
}

// tower returns a term of the given depth, in which every node but the lowest
// one has one kid.
func tower(depth int, name string, leaf api.Term) api.Term {
	for range depth - 1 {
		leaf = app(name, leaf)
	}
	return leaf
}

// tree returns a term with the given leaves, in order, with applications of
// xor above them: 394 nodes in all for 344 leaves.
func tree(l []api.Term) api.Term {
	for len(l) > 1 {
		var above []api.Term
		for kids := range slices.Chunk(l, api.MaxKids) {
			if len(kids) == 1 {
				above = append(above, kids...)
				continue
			}
			above = append(above, app("xor", kids...))
		}
		l = above
	}
	return l[0]
}

// sized returns a term with n nodes and few levels that is no sum.
func sized(name string, n int) api.Term {
	kids := []api.Term{}
	for n--; n > 0; {
		size := min(n, max(1, (n+api.MaxKids-len(kids)-1)/(api.MaxKids-len(kids))))
		kids = append(kids, sized(name, size))
		n -= size
	}
	return app(name, kids...)
}

// same is equality by the definition: nil and empty lists of kids are equal.
func same(a, b api.Term) bool {
	return a.Kind == b.Kind && a.Name == b.Name && a.Sort == b.Sort && slices.EqualFunc(a.Kids, b.Kids, same)
}

func sameTerms(a, b []api.Term) bool {
	return slices.EqualFunc(a, b, same)
}

// show writes anything with all that it contains.
func show(x any) string {
	return fmt.Sprintf("%+v", x)
}

// texts returns the texts of valid terms.
func texts(l ...api.Term) string {
	var all []string
	for _, t := range l {
		s, _ := term.Format(t)
		all = append(all, s)
	}
	return strings.Join(all, "; ")
}

// arrays returns the addresses of the lists of kids in some terms, also of
// empty ones behind which there is memory.
func arrays(terms ...api.Term) []*api.Term {
	var l []*api.Term
	for _, t := range terms {
		if cap(t.Kids) > 0 {
			l = append(l, &t.Kids[:1][0])
			l = append(l, arrays(t.Kids...)...)
		}
	}
	return l
}

// apart checks that no two lists of kids of these terms share memory.
func apart(t *testing.T, what string, terms ...api.Term) {
	t.Helper()
	seen := map[*api.Term]bool{}
	for _, p := range arrays(terms...) {
		if seen[p] {
			t.Errorf("%s: memory is shared", what)
			return
		}
		seen[p] = true
	}
}

// apartLists checks that lists, and the terms in them, share no memory.
func apartLists(t *testing.T, what string, lists ...[]api.Term) {
	t.Helper()
	var roots []api.Term
	for _, l := range lists {
		roots = append(roots, api.Term{Kids: l})
	}
	apart(t, what, roots...)
}

// A bad term is not valid.
type bad struct {
	t    api.Term
	want api.Errno
}

// invalid are terms that are not valid, with their errors.
func invalid() map[string]bad {
	a := atom("a", api.SortAny)
	return map[string]bad{
		"zero term":              {api.Term{}, api.ErrInvalid},
		"variable with a kid":    {api.Term{Kind: api.TermVar, Name: "x", Kids: []api.Term{a}}, api.ErrInvalid},
		"sort 6":                 {atom("a", 6), api.ErrInvalid},
		"sum with a sort":        {api.Term{Kind: api.TermApp, Name: "xor", Sort: api.SortKey, Kids: []api.Term{a, a}}, api.ErrInvalid},
		"kid without a kind":     {app("xor", a, api.Term{}), api.ErrInvalid},
		"no name":                {atom("", api.SortAny), api.ErrSyntax},
		"name too long":          {atom(strings.Repeat("x", api.MaxName+1), api.SortAny), api.ErrSyntax},
		"kids that cancel":       {app("xor", atom("", api.SortAny), atom("", api.SortAny)), api.ErrSyntax},
		"a part of a summand":    {app("xor", a, app("hash", atom("0", api.SortAny))), api.ErrSyntax},
		"9 kids":                 {app("xor", slices.Repeat([]api.Term{a}, 9)...), api.ErrTooLarge},
		"9 kids of zero":         {app("zero", slices.Repeat([]api.Term{a}, 9)...), api.ErrTooLarge},
		"401 nodes":              {sized("h", 401), api.ErrTooLarge},
		"401 nodes of sums":      {sized("xor", 401), api.ErrTooLarge},
		"41 levels":              {tower(41, "g", a), api.ErrTooLarge},
		"41 levels of sums":      {tower(41, "xor", a), api.ErrTooLarge},
		"nodes before the size":  {app("xor", sized("xor", 400), atom("", 0)), api.ErrSyntax},
		"nodes before the depth": {app("xor", tower(41, "xor", a), api.Term{}), api.ErrInvalid},
	}
}

// A badList is a list of terms with an error.
type badList struct {
	l    []api.Term
	want api.Errno
}

// badLists are lists with an error.
func badLists() map[string]badList {
	a := atom("a", api.SortAny)
	lists := map[string]badList{
		"201 terms":             {slices.Repeat([]api.Term{a}, 201), api.ErrTooLarge},
		"201 terms, not valid":  {make([]api.Term, 201), api.ErrTooLarge},
		"201 terms zero":        {slices.Repeat([]api.Term{app("zero")}, 201), api.ErrTooLarge},
		"the first of two":      {[]api.Term{atom("", 0), {}}, api.ErrSyntax},
		"the first of two, too": {[]api.Term{{}, atom("", 0)}, api.ErrInvalid},
		"the first of three":    {[]api.Term{a, sized("h", 401), atom("", 0), {}}, api.ErrTooLarge},
		"the last of 200":       {append(slices.Repeat([]api.Term{a}, 199), atom("", 0)), api.ErrSyntax},
		"twice":                 {[]api.Term{atom("", 0), atom("", 0)}, api.ErrSyntax},
	}
	for what, c := range invalid() {
		lists[what] = badList{[]api.Term{c.t}, c.want}
		lists[what+", later"] = badList{[]api.Term{a, app("zero"), c.t, a}, c.want}
	}
	return lists
}

// pick returns an element of a list.
func pick[T any](r *rand.Rand, l []T) T {
	return l[r.IntN(len(l))]
}

// randomTerm returns a term with at most the given depth, with sums, and what
// looks like sums, anywhere in it.
func randomTerm(r *rand.Rand, depth int) api.Term {
	if depth == 1 || r.IntN(4) == 0 {
		t := atom(pick(r, []string{"a", "b", "c", "xor", "zero"}), pick(r, []int{api.SortAny, api.SortAny, api.SortNonce}))
		if r.IntN(5) == 0 {
			t.Kind = api.TermVar
		}
		return t
	}
	kids := make([]api.Term, r.IntN(4))
	for i := range kids {
		kids[i] = randomTerm(r, depth-1)
	}
	return app(pick(r, []string{"xor", "xor", "xor", "xor", "zero", "hash"}), kids...)
}

// randomTerms returns up to n terms.
func randomTerms(r *rand.Rand, n, depth int) []api.Term {
	var l []api.Term
	for range r.IntN(n + 1) {
		l = append(l, randomTerm(r, depth))
	}
	return l
}

// randomSums returns n sums of some of the letters, so that they often depend
// on one another.
func randomSums(r *rand.Rand, n int, names string) []api.Term {
	var l []api.Term
	for range n {
		word := ""
		for _, c := range names {
			if r.IntN(3) == 0 {
				word += string(c)
			}
		}
		if word == "" {
			word = "0"
		}
		l = append(l, letter(word))
	}
	return l
}

// sumOf returns the sum of terms that have one.
func sumOf(t *testing.T, l ...api.Term) api.Term {
	t.Helper()
	x, e := xor.Sum(l)
	if e != api.OK {
		t.Fatalf("Sum(%s): %v", texts(l...), e)
	}
	return x
}

// partsOf returns the summands of a term that is valid.
func partsOf(t *testing.T, x api.Term) []api.Term {
	t.Helper()
	l, e := xor.Parts(x)
	if e != api.OK {
		t.Fatalf("Parts(%s): %v", texts(x), e)
	}
	return l
}
