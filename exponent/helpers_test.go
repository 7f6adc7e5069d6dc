package exponent_test

import (
	"fmt"
	"math"
	"math/rand/v2"
	"slices"
	"strings"
	"testing"

	"sealring/api"
	"sealring/exponent"
	"sealring/term"
)

func atom(name string, sort int) api.Term {
	return api.Term{Kind: api.TermAtom, Name: name, Sort: sort}
}

func app(name string, kids ...api.Term) api.Term {
	return api.Term{Kind: api.TermApp, Name: name, Kids: kids}
}

// must parses the text of a term that is right.
func must(t *testing.T, s string) api.Term {
	t.Helper()
	x, e := term.Parse(s)
	if e != api.OK {
		t.Fatalf("Parse(%q): %v", s, e)
	}
	return x
}

// power returns the power n of an atom.
func power(name string, n int) api.Power {
	return api.Power{Term: atom(name, api.SortAny), N: n}
}

// product reads a product from names of atoms with numbers, as in "a2 b-3".
func product(t *testing.T, s string) []api.Power {
	t.Helper()
	var l []api.Power
	for _, word := range strings.Fields(s) {
		n := 0
		if _, e := fmt.Sscanf(word[1:], "%d", &n); e != nil {
			t.Fatalf("%q: %v", s, e)
		}
		l = append(l, power(word[:1], n))
	}
	return l
}

func products(t *testing.T, texts ...string) [][]api.Power {
	t.Helper()
	var l [][]api.Power
	for _, s := range texts {
		l = append(l, product(t, s))
	}
	return l
}

// many returns a product of n different atoms.
func many(first string, n int) []api.Power {
	var l []api.Power
	for i := range n {
		l = append(l, power(fmt.Sprintf("%s%04d", first, i), 1))
	}
	return l
}

// tower returns a term of the given depth, in which every node but the lowest
// one has one kid.
func tower(depth int, leaf api.Term) api.Term {
	for range depth - 1 {
		leaf = app("g", leaf)
	}
	return leaf
}

// tree returns a term with the given leaves, in order, with applications of
// mul above them: 394 nodes in all for 344 leaves.
func tree(l []api.Term) api.Term {
	for len(l) > 1 {
		var above []api.Term
		for kids := range slices.Chunk(l, api.MaxKids) {
			if len(kids) == 1 {
				above = append(above, kids...)
				continue
			}
			above = append(above, app("mul", kids...))
		}
		l = above
	}
	return l[0]
}

// sized returns a term with n nodes and few levels.
func sized(n int) api.Term {
	kids := []api.Term{}
	for n--; n > 0; {
		size := min(n, max(1, (n+api.MaxKids-len(kids)-1)/(api.MaxKids-len(kids))))
		kids = append(kids, sized(size))
		n -= size
	}
	return app("h", kids...)
}

// terms returns the factors of some products.
func terms(products ...[]api.Power) []api.Term {
	var l []api.Term
	for _, p := range slices.Concat(products...) {
		l = append(l, p.Term)
	}
	return l
}

// same is equality by the definition: nil and empty lists of kids are equal.
func same(a, b api.Term) bool {
	return a.Kind == b.Kind && a.Name == b.Name && a.Sort == b.Sort && slices.EqualFunc(a.Kids, b.Kids, same)
}

func sameProduct(a, b []api.Power) bool {
	return slices.EqualFunc(a, b, func(x, y api.Power) bool { return x.N == y.N && same(x.Term, y.Term) })
}

// show writes anything with all that it contains.
func show(x any) string {
	return fmt.Sprintf("%+v", x)
}

// arrays returns the addresses of the lists of kids in some terms, also of
// empty ones behind which there is memory.
func arrays(terms ...api.Term) []*api.Term {
	var l []*api.Term
	for _, t := range terms {
		if cap(t.Kids) > 0 {
			l = append(l, &t.Kids[:1][0])
			l = append(l, arrays(t.Kids...)...)
		}
	}
	return l
}

// apart checks that no two lists of kids of these terms share memory.
func apart(t *testing.T, what string, terms ...api.Term) {
	t.Helper()
	seen := map[*api.Term]bool{}
	for _, p := range arrays(terms...) {
		if seen[p] {
			t.Errorf("%s: memory is shared", what)
			return
		}
		seen[p] = true
	}
}

// apartProducts checks that products, and the terms in them, share no memory.
func apartProducts(t *testing.T, what string, products ...[]api.Power) {
	t.Helper()
	seen := map[*api.Power]bool{}
	for _, l := range products {
		if cap(l) > 0 {
			p := &l[:1][0]
			if seen[p] {
				t.Errorf("%s: lists share memory", what)
			}
			seen[p] = true
		}
	}
	apart(t, what, terms(products...)...)
}

// invalid are terms that are not valid, with their errors.
func invalid() map[string]struct {
	t    api.Term
	want api.Errno
} {
	a := atom("a", api.SortAny)
	return map[string]struct {
		t    api.Term
		want api.Errno
	}{
		"zero term":             {api.Term{}, api.ErrInvalid},
		"variable with a kid":   {api.Term{Kind: api.TermVar, Name: "x", Kids: []api.Term{a}}, api.ErrInvalid},
		"sort 6":                {atom("a", 6), api.ErrInvalid},
		"kid without a kind":    {app("mul", a, api.Term{}), api.ErrInvalid},
		"no name":               {atom("", api.SortAny), api.ErrSyntax},
		"name too long":         {atom(strings.Repeat("x", api.MaxName+1), api.SortAny), api.ErrSyntax},
		"kid without a name":    {app("inv", atom("", api.SortAny)), api.ErrSyntax},
		"9 kids":                {app("mul", slices.Repeat([]api.Term{a}, 9)...), api.ErrTooLarge},
		"401 nodes":             {sized(401), api.ErrTooLarge},
		"41 levels":             {tower(41, a), api.ErrTooLarge},
		"arity, and not valid":  {app("mul", api.Term{}), api.ErrInvalid},
		"arity, and too large":  {app("inv", sized(200), sized(200)), api.ErrTooLarge},
		"arity, and a bad name": {app("one", atom("a", 0), atom("", 0)), api.ErrSyntax},
	}
}

// badProducts are lists that are no valid products, with their errors.
func badProducts() map[string]struct {
	l    []api.Power
	want api.Errno
} {
	type list = []api.Power
	a := atom("a", api.SortAny)
	bad := map[string]struct {
		l    []api.Power
		want api.Errno
	}{
		"201 powers":                    {many("a", 201), api.ErrTooLarge},
		"201 powers without terms":      {make(list, 201), api.ErrTooLarge},
		"mul":                           {list{{Term: app("mul", a, a), N: 1}}, api.ErrInvalid},
		"inv":                           {list{{Term: app("inv", a), N: 1}}, api.ErrInvalid},
		"one":                           {list{{Term: app("one"), N: 1}}, api.ErrInvalid},
		"mul of one kid":                {list{{Term: app("mul", a), N: 1}}, api.ErrInvalid},
		"inv of no kid":                 {list{{Term: app("inv"), N: 1}}, api.ErrInvalid},
		"one with a kid":                {list{{Term: app("one", a), N: 1}}, api.ErrInvalid},
		"0":                             {list{power("a", 0)}, api.ErrRange},
		"1001":                          {list{power("a", 1001)}, api.ErrRange},
		"-1001":                         {list{power("a", -1001)}, api.ErrRange},
		"the greatest number":           {list{power("a", math.MaxInt)}, api.ErrRange},
		"the least number":              {list{power("a", math.MinInt)}, api.ErrRange},
		"a later 0":                     {list{power("a", 1), power("b", 0)}, api.ErrRange},
		"twice":                         {list{power("a", 1), power("a", -1)}, api.ErrExists},
		"descending":                    {list{power("b", 1), power("a", 1)}, api.ErrExists},
		"descending at last":            {list{power("a", 1), power("c", 1), power("b", 1)}, api.ErrExists},
		"the larger term first":         {list{{Term: app("f", a), N: 1}, power("b", 1)}, api.ErrExists},
		"the greater sort first":        {list{{Term: atom("a", api.SortTag), N: 1}, power("a", 1)}, api.ErrExists},
		"no factor before 0":            {list{{Term: app("one"), N: 0}}, api.ErrInvalid},
		"no factor before its place":    {list{power("a", 1), power("b", 1), {Term: app("one"), N: 1}, power("a", 1)}, api.ErrInvalid},
		"0 before its place":            {list{power("b", 1), power("a", 0)}, api.ErrRange},
		"its place before a later 0":    {list{power("b", 1), power("a", 1), power("c", 0)}, api.ErrExists},
		"0 before a later term":         {list{power("b", 0), {}}, api.ErrRange},
		"its place before a later term": {list{power("b", 1), power("a", 1), {N: 1}}, api.ErrExists},
		"0 before a later no factor":    {list{power("b", 0), {Term: app("one"), N: 1}}, api.ErrRange},
	}
	for what, c := range invalid() {
		bad[what] = struct {
			l    []api.Power
			want api.Errno
		}{list{{Term: c.t, N: 0}}, c.want}
		bad[what+", later"] = struct {
			l    []api.Power
			want api.Errno
		}{list{power("a", 1), {Term: c.t, N: 1}}, c.want}
	}
	return bad
}

// pick returns an element of a list.
func pick[T any](r *rand.Rand, l []T) T {
	return l[r.IntN(len(l))]
}

// randomFactor returns a factor with at most the given depth. It may contain
// symbols of exponents, also with a wrong number of kids.
func randomFactor(r *rand.Rand, depth int) api.Term {
	name, sort := pick(r, []string{"a", "b", "mul", "one"}), pick(r, []int{api.SortAny, api.SortNonce})
	switch kind := r.IntN(5); {
	case kind == 0:
		return api.Term{Kind: api.TermVar, Name: name, Sort: sort}
	case kind < 4 || depth == 1:
		return atom(name, sort)
	}
	kids := make([]api.Term, r.IntN(3))
	for i := range kids {
		if r.IntN(2) == 0 {
			kids[i] = app(pick(r, []string{"mul", "inv", "one"}), slices.Repeat([]api.Term{atom("a", 0)}, r.IntN(3))...)
		} else {
			kids[i] = randomFactor(r, depth-1)
		}
	}
	return app(pick(r, []string{"f", "exp"}), kids...)
}

// randomExponent returns a valid term with symbols of exponents, rarely with a
// wrong number of kids.
func randomExponent(r *rand.Rand, depth int) api.Term {
	if depth == 1 || r.IntN(4) == 0 {
		return randomFactor(r, 2)
	}
	var t api.Term
	switch r.IntN(5) {
	case 0:
		t = app("one")
	case 1, 2:
		t = app("inv", randomExponent(r, depth-1))
	default:
		t = app("mul", randomExponent(r, depth-1), randomExponent(r, depth-1))
		for range r.IntN(2) {
			t.Kids = append(t.Kids, randomExponent(r, depth-1))
		}
	}
	if r.IntN(40) == 0 {
		t.Name = pick(r, []string{"mul", "inv", "one"})
	}
	return t
}

// randomProduct returns a valid product of up to n factors, with powers up to
// the limit.
func randomProduct(r *rand.Rand, n, limit int) []api.Power {
	var all []api.Term
	for range r.IntN(n + 1) {
		all = append(all, randomFactor(r, 2))
	}
	slices.SortFunc(all, term.Compare)
	var l []api.Power
	for _, t := range slices.CompactFunc(all, same) {
		p := 1 + r.IntN(limit)
		if r.IntN(2) == 0 {
			p = -p
		}
		l = append(l, api.Power{Term: t, N: p})
	}
	return l
}

// of returns the product of a term that has one.
func of(t *testing.T, x api.Term) []api.Power {
	t.Helper()
	l, e := exponent.Of(x)
	if e != api.OK {
		t.Fatalf("Of(%s): %v", show(x), e)
	}
	return l
}
