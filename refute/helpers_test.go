package refute_test

import (
	"fmt"
	"math/rand/v2"
	"slices"
	"strings"
	"testing"

	"sealring/api"
	"sealring/knowledge"
	"sealring/refute"
	"sealring/term"
	"sealring/theory"
)

func variable(name string, sort int) api.Term {
	return api.Term{Kind: api.TermVar, Name: name, Sort: sort}
}

func atom(name string, sort int) api.Term {
	return api.Term{Kind: api.TermAtom, Name: name, Sort: sort}
}

func app(name string, kids ...api.Term) api.Term {
	return api.Term{Kind: api.TermApp, Name: name, Kids: kids}
}

// must parses the text of a term that is right.
func must(t *testing.T, s string) api.Term {
	t.Helper()
	x, e := term.Parse(s)
	if e != api.OK {
		t.Fatalf("Parse(%q): %v", s, e)
	}
	return x
}

// all parses the texts of terms, divided by semicolons.
func all(t *testing.T, s string) []api.Term {
	t.Helper()
	var l []api.Term
	if s == "" {
		return nil
	}
	for _, part := range strings.Split(s, "; ") {
		l = append(l, must(t, part))
	}
	return l
}

// same is equality by the definition: nil and empty lists of kids are equal.
func same(a, b api.Term) bool {
	return a.Kind == b.Kind && a.Name == b.Name && a.Sort == b.Sort && slices.EqualFunc(a.Kids, b.Kids, same)
}

func sameTerms(a, b []api.Term) bool {
	return slices.EqualFunc(a, b, same)
}

// has reports whether a list has a term.
func has(l []api.Term, t api.Term) bool {
	return slices.ContainsFunc(l, func(u api.Term) bool { return same(t, u) })
}

func applies(t api.Term, names ...string) bool {
	return t.Kind == api.TermApp && slices.Contains(names, t.Name)
}

// show writes anything with all that it contains.
func show(x any) string {
	return fmt.Sprintf("%+v", x)
}

// text writes a term, if need be one that is not valid.
func text(t api.Term) string {
	s, e := term.Format(t)
	if e != api.OK {
		return show(t)
	}
	return s
}

// texts writes a list of terms.
func texts(l []api.Term) string {
	var s []string
	for _, t := range l {
		s = append(s, text(t))
	}
	return strings.Join(s, "; ")
}

// lines writes a refusal, if need be one that has no text.
func lines(r api.Refusal) string {
	s, e := refute.Format(r)
	if e != api.OK {
		return show(r)
	}
	return s
}

// isEmpty reports whether a refusal is a zero value.
func isEmpty(r api.Refusal) bool {
	return len(r.Known) == 0 && len(r.Sums) == 0 && len(r.Powers) == 0
}

// isZero reports whether a term is a zero value.
func isZero(t api.Term) bool {
	return same(t, api.Term{})
}

// arrays returns the addresses of the lists of kids in some terms, also of
// empty ones behind which there is memory.
func arrays(terms ...api.Term) []any {
	var l []any
	for _, t := range terms {
		if cap(t.Kids) > 0 {
			l = append(l, &t.Kids[:1][0])
			l = append(l, arrays(t.Kids...)...)
		}
	}
	return l
}

// address returns the address of a list, if there is memory behind it.
func address[T any](l []T) []any {
	if cap(l) == 0 {
		return nil
	}
	return []any{&l[:1][0]}
}

// memory returns the addresses of all lists in a refusal.
func memory(r api.Refusal) []any {
	l := slices.Concat(address(r.Known), address(r.Sums), address(r.Powers), arrays(r.Known...))
	for _, n := range r.Sums {
		l = slices.Concat(l, arrays(n.Term), address(n.Odd), arrays(n.Odd...))
	}
	for _, n := range r.Powers {
		l = slices.Concat(l, arrays(n.Term, n.Base), address(n.Shows.Values))
		for _, p := range n.Shows.Values {
			l = append(l, arrays(p.Term)...)
		}
	}
	return l
}

// isNew checks that no address of a result occurs twice in it, or is one of what
// is given, which may itself use a list twice.
func isNew(t *testing.T, what string, result []any, given []any) {
	t.Helper()
	seen := map[any]bool{}
	for _, p := range given {
		seen[p] = true
	}
	for _, p := range result {
		if seen[p] {
			t.Errorf("%s: memory is shared", what)
			return
		}
		seen[p] = true
	}
}

// atoms returns n different atoms, in ascending order.
func atoms(first string, n int) []api.Term {
	var l []api.Term
	for i := range n {
		l = append(l, atom(fmt.Sprintf("%s%04d", first, i), api.SortNonce))
	}
	return l
}

// tower returns a term of the given depth, in which every node but the lowest
// one has one kid.
func tower(depth int, name string, leaf api.Term) api.Term {
	for range depth - 1 {
		leaf = app(name, leaf)
	}
	return leaf
}

// towers returns n towers of different atoms.
func towers(n, depth int) []api.Term {
	var l []api.Term
	for _, x := range atoms("t", n) {
		l = append(l, tower(depth, "hash", x))
	}
	return l
}

// wide returns a plain term with n nodes and few levels.
func wide(n int) api.Term {
	if n <= 2 {
		return tower(n, "hash", atom("a", api.SortAny))
	}
	return app("pair", wide((n-1)/2), wide(n-1-(n-1)/2))
}

// A bad term has an error by itself.
type bad struct {
	t    api.Term
	want api.Errno
}

// badTerms are terms that are not valid in the theory, ground and plain, with
// the errors that they have in lists of known terms.
func badTerms() map[string]bad {
	a, x := atom("a", api.SortAny), variable("x", api.SortAny)
	return map[string]bad{
		"zero term":               {api.Term{}, api.ErrInvalid},
		"sort 6":                  {atom("a", 6), api.ErrInvalid},
		"no name":                 {app("hash", atom("", api.SortAny)), api.ErrSyntax},
		"9 kids":                  {app("xor", atoms("a", 9)...), api.ErrTooLarge},
		"41 levels":               {tower(41, "hash", a), api.ErrTooLarge},
		"401 nodes":               {wide(401), api.ErrTooLarge},
		"another symbol":          {app("f", a), api.ErrType},
		"number of kids":          {app("hash", app("pair", a)), api.ErrArity},
		"private key of no agent": {app("sk", a), api.ErrType},
		"variable":                {x, api.ErrUnbound},
		"variable below":          {app("hash", app("pair", a, x)), api.ErrUnbound},
		"variable of a key":       {app("sk", variable("x", api.SortAgent)), api.ErrUnbound},
		"variable before fst":     {app("fst", x), api.ErrUnbound},
		"destructor":              {app("fst", a), api.ErrType},
		"destructor below":        {app("hash", app("dec", a, a)), api.ErrType},
		"destructor that fits":    {app("fst", app("pair", a, a)), api.ErrType},
		"sum of equal terms":      {app("xor", a, a), api.ErrType},
		"sum with zero":           {app("xor", app("zero"), a), api.ErrType},
		"sum in the wrong order":  {app("hash", app("xor", atom("b", api.SortAny), a)), api.ErrType},
		"product of one":          {app("mul", a, app("one")), api.ErrType},
		"inverse of an inverse":   {app("inv", app("inv", a)), api.ErrType},
		"power of a power":        {app("exp", app("exp", a, a), a), api.ErrType},
		"power one":               {app("exp", a, app("one")), api.ErrType},
	}
}

// pick returns an element of a list.
func pick[T any](r *rand.Rand, l []T) T {
	return l[r.IntN(len(l))]
}

// Symbols of random terms: those of a kind of terms in which much happens.
var (
	freely      = []string{"pair", "pair", "enc", "enc", "enc", "aenc", "aenc", "pk", "sign", "hash", "sk", "shk", "new"}
	adding      = []string{"xor", "xor", "xor", "enc", "hash", "pair", "zero"}
	multiplying = []string{"exp", "exp", "mul", "mul", "inv", "enc", "hash", "one"}
	everything  = slices.Concat(freely, adding, multiplying)
)

// kinds are symbols, with the depth of terms that fit.
var kinds = []struct {
	symbols []string
	depth   int
}{{freely, 4}, {adding, 3}, {multiplying, 3}, {everything, 4}}

// randomLeaf returns one of a few atoms, few of which are public.
func randomLeaf(r *rand.Rand) api.Term {
	switch r.IntN(12) {
	case 0:
		return atom("g", api.SortData)
	case 1:
		return pick(r, []api.Term{atom("e#0", api.SortNonce), atom("e#1", api.SortKey), app("zero"), app("one"), atom("hi", api.SortTag)})
	}
	return atom(pick(r, []string{"a", "b", "c", "d", "k", "l"}), api.SortAny)
}

// randomTerm returns a ground term with at most the given depth, and only these
// symbols.
func randomTerm(r *rand.Rand, symbols []string, depth int) api.Term {
	if depth <= 1 || r.IntN(6) == 0 {
		return randomLeaf(r)
	}
	kid := func() api.Term { return randomTerm(r, symbols, depth-1) }
	agent := func() api.Term { return atom(pick(r, []string{"a", "b"}), api.SortAgent) }
	switch name := pick(r, symbols); name {
	case "sk":
		return app(name, agent())
	case "shk":
		return app(name, agent(), agent())
	case "new":
		return app(name, atom("n", api.SortNonce), kid())
	case "aenc":
		return app(name, kid(), pick(r, []api.Term{app("pk", kid()), app("pk", app("sk", agent())), kid()}))
	case "zero", "one":
		return app(name)
	case "pk", "hash", "inv":
		return app(name, kid())
	case "xor", "mul":
		kids := []api.Term{kid(), kid()}
		for range r.IntN(3) {
			kids = append(kids, kid())
		}
		return app(name, kids...)
	default:
		return app(name, kid(), kid())
	}
}

// randomPlain returns a plain term.
func randomPlain(r *rand.Rand, symbols []string, depth int) api.Term {
	for {
		t, e := theory.Normal(randomTerm(r, symbols, depth))
		if e == api.OK && theory.Plain(t) {
			return t
		}
	}
}

// randomList returns up to n plain terms.
func randomList(r *rand.Rand, symbols []string, n, depth int) []api.Term {
	var l []api.Term
	for range r.IntN(n + 1) {
		l = append(l, randomPlain(r, symbols, 1+r.IntN(depth)))
	}
	return l
}

// randomGoal returns a term that is often derivable from k: one of its
// subterms, or a term of some of them.
func randomGoal(r *rand.Rand, symbols []string, k []api.Term) api.Term {
	l := append(term.Subterms(k), randomLeaf(r))
	if r.IntN(3) > 0 {
		return pick(r, l)
	}
	name := pick(r, []string{"pair", "hash", "enc", "xor", "exp", "mul"})
	if !slices.Contains(symbols, name) {
		name = "pair"
	}
	t := app(name, pick(r, l), pick(r, l))
	if name == "hash" {
		t = app(name, pick(r, l))
	}
	n, e := theory.Normal(t)
	if e != api.OK {
		return pick(r, l)
	}
	return n
}

// A question is a list and a term, which may be derivable from it or not.
type question struct {
	k []api.Term
	t api.Term
}

// randomQuestion returns a question of a kind, without errors, whose universe is
// small enough for the reference.
func randomQuestion(r *rand.Rand, kind int) question {
	for {
		symbols := kinds[kind].symbols
		k := randomList(r, symbols, 6, kinds[kind].depth)
		q := question{k, randomGoal(r, symbols, k)}
		universe, e := knowledge.Universe(q.k, q.t)
		if e == api.OK && len(universe) <= 40 {
			return q
		}
	}
}

// randomOpen returns a question of a kind whose term is not derivable.
func randomOpen(r *rand.Rand, kind int) question {
	for {
		q := randomQuestion(r, kind)
		if is, e := knowledge.Derivable(q.k, q.t); e == api.OK && !is {
			return q
		}
	}
}
