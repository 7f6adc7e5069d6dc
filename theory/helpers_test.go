package theory_test

import (
	"fmt"
	"math/rand/v2"
	"slices"
	"strings"
	"testing"

	"sealring/api"
	"sealring/term"
	"sealring/theory"
)

func variable(name string, sort int) api.Term {
	return api.Term{Kind: api.TermVar, Name: name, Sort: sort}
}

func atom(name string, sort int) api.Term {
	return api.Term{Kind: api.TermAtom, Name: name, Sort: sort}
}

func app(name string, kids ...api.Term) api.Term {
	return api.Term{Kind: api.TermApp, Name: name, Kids: kids}
}

// must parses the text of a term that is right.
func must(t *testing.T, s string) api.Term {
	t.Helper()
	x, e := term.Parse(s)
	if e != api.OK {
		t.Fatalf("Parse(%q): %v", s, e)
	}
	return x
}

// all parses the texts of terms.
func all(t *testing.T, texts ...string) []api.Term {
	t.Helper()
	var l []api.Term
	for _, s := range texts {
		l = append(l, must(t, s))
	}
	return l
}

// same is equality by the definition: nil and empty lists of kids are equal.
func same(a, b api.Term) bool {
	return a.Kind == b.Kind && a.Name == b.Name && a.Sort == b.Sort && slices.EqualFunc(a.Kids, b.Kids, same)
}

func sameTerms(a, b []api.Term) bool {
	return slices.EqualFunc(a, b, same)
}

// isZero reports whether t is the zero value of a term.
func isZero(t api.Term) bool {
	return same(t, api.Term{})
}

// show writes anything with all that it contains.
func show(x any) string {
	return fmt.Sprintf("%+v", x)
}

// text writes a term, if need be one that is not valid.
func text(t api.Term) string {
	s, e := term.Format(t)
	if e != api.OK {
		return show(t)
	}
	return s
}

// texts writes a list of terms.
func texts(l []api.Term) string {
	var s []string
	for _, t := range l {
		s = append(s, text(t))
	}
	return strings.Join(s, "; ")
}

// arrays returns the addresses of the lists of kids in some terms, also of
// empty ones behind which there is memory.
func arrays(terms ...api.Term) []*api.Term {
	var l []*api.Term
	for _, t := range terms {
		if cap(t.Kids) > 0 {
			l = append(l, &t.Kids[:1][0])
			l = append(l, arrays(t.Kids...)...)
		}
	}
	return l
}

// apart checks that no two lists of kids of these terms share memory.
func apart(t *testing.T, what string, terms ...api.Term) {
	t.Helper()
	seen := map[*api.Term]bool{}
	for _, p := range arrays(terms...) {
		if seen[p] {
			t.Errorf("%s: memory is shared", what)
			return
		}
		seen[p] = true
	}
}

// isNew checks that the lists of kids of a result share no memory, neither with
// one another nor with an argument, which may itself use a list twice.
func isNew(t *testing.T, what string, result, argument api.Term) {
	t.Helper()
	apart(t, what, result)
	given := arrays(argument)
	if slices.ContainsFunc(arrays(result), func(p *api.Term) bool { return slices.Contains(given, p) }) {
		t.Errorf("%s: memory is shared with an argument", what)
	}
}

// atoms returns n different atoms, in ascending order.
func atoms(first string, n int) []api.Term {
	var l []api.Term
	for i := range n {
		l = append(l, atom(fmt.Sprintf("%s%04d", first, i), api.SortNonce))
	}
	return l
}

// tower returns a term of the given depth, in which every node but the lowest
// one has one kid.
func tower(depth int, name string, leaf api.Term) api.Term {
	for range depth - 1 {
		leaf = app(name, leaf)
	}
	return leaf
}

// box returns a free term with these terms in it, up to 7: it has two nodes
// more than they have together.
func box(l ...api.Term) api.Term {
	return app("new", append([]api.Term{atom("n", api.SortNonce)}, l...)...)
}

// sized returns a free term with n nodes and few levels.
func sized(n int) api.Term {
	if n <= 2 {
		return tower(n, "hash", atom("a", api.SortAny))
	}
	var kids []api.Term
	for n -= 2; n > 0; {
		size := min(n, max(1, (n+6-len(kids))/(7-len(kids))))
		kids = append(kids, sized(size))
		n -= size
	}
	return box(kids...)
}

// growing returns a term with 10 nodes and 3 levels, whose normal form has 17
// nodes and 3 levels.
func growing(first string) api.Term {
	return app("inv", app("mul", atoms(first, 8)...))
}

// A bad term is not valid in the theory.
type bad struct {
	t    api.Term
	want api.Errno
}

// invalid are terms that are not valid in the theory, with their errors.
func invalid() map[string]bad {
	a, x := atom("a", api.SortAny), variable("x", api.SortAny)
	agent := atom("a", api.SortAgent)
	return map[string]bad{
		"zero term":                  {api.Term{}, api.ErrInvalid},
		"variable with a kid":        {api.Term{Kind: api.TermVar, Name: "x", Kids: []api.Term{a}}, api.ErrInvalid},
		"sort 6":                     {atom("a", 6), api.ErrInvalid},
		"application with a sort":    {api.Term{Kind: api.TermApp, Name: "zero", Sort: api.SortKey}, api.ErrInvalid},
		"kid without a kind":         {app("hash", api.Term{}), api.ErrInvalid},
		"no name":                    {app("hash", atom("", api.SortAny)), api.ErrSyntax},
		"name too long":              {app(strings.Repeat("f", api.MaxName+1)), api.ErrSyntax},
		"9 kids":                     {app("xor", slices.Repeat([]api.Term{a}, 9)...), api.ErrTooLarge},
		"401 nodes":                  {sized(401), api.ErrTooLarge},
		"41 levels":                  {tower(41, "hash", a), api.ErrTooLarge},
		"terms before symbols":       {app("f", app("hash"), atom("", api.SortAny)), api.ErrSyntax},
		"size before symbols":        {app("f", sized(400)), api.ErrTooLarge},
		"depth before symbols":       {app("hash", a, tower(40, "f", a)), api.ErrTooLarge},
		"another symbol":             {app("f", a), api.ErrType},
		"another symbol, no kids":    {app("f"), api.ErrType},
		"beginning of a symbol":      {app("has", a), api.ErrType},
		"longer than a symbol":       {app("hashs", a), api.ErrType},
		"capital letter":             {app("Pair", a, a), api.ErrType},
		"another symbol below":       {app("hash", app("pair", a, app("f", a))), api.ErrType},
		"symbol before number":       {app("f", app("hash")), api.ErrType},
		"number before symbol below": {app("hash", app("f"), a), api.ErrArity},
		"number in the first kid":    {app("pair", app("hash"), app("f")), api.ErrArity},
		"symbol in the first kid":    {app("pair", app("f"), app("hash")), api.ErrType},
		"number of a deeper kid":     {app("pair", app("hash", app("hash")), app("f")), api.ErrArity},
		"private key of no agent":    {app("sk", atom("a", api.SortKey)), api.ErrType},
		"private key of any":         {app("sk", a), api.ErrType},
		"private key of ?x":          {app("sk", x), api.ErrType},
		"private key of ?x:nonce":    {app("sk", variable("x", api.SortNonce)), api.ErrType},
		"private key of a key":       {app("sk", app("sk", agent)), api.ErrType},
		"private key of what opens":  {app("sk", app("fst", app("pair", agent, agent))), api.ErrType},
		"number before agents":       {app("sk", a, a), api.ErrArity},
		"agents before numbers":      {app("sk", app("hash")), api.ErrType},
		"first shared":               {app("shk", a, agent), api.ErrType},
		"second shared":              {app("shk", agent, a), api.ErrType},
		"second shared is ?x":        {app("shk", agent, x), api.ErrType},
		"second shared is a term":    {app("shk", agent, app("hash", agent)), api.ErrType},
		"new variable":               {app("new", x), api.ErrType},
		"new variable of an agent":   {app("new", variable("x", api.SortAgent), a), api.ErrType},
		"new term":                   {app("new", app("zero"), a), api.ErrType},
		"new before numbers":         {app("new", app("hash")), api.ErrType},
		"agents before later kids":   {app("pair", app("sk", a), app("hash")), api.ErrType},
		"numbers before agents":      {app("pair", app("hash"), app("sk", a)), api.ErrArity},
	}
}

// pick returns an element of a list.
func pick[T any](r *rand.Rand, l []T) T {
	return l[r.IntN(len(l))]
}

// Symbols of random terms: those of a kind of terms in which much happens.
var (
	destructing = []string{"pair", "enc", "aenc", "pk", "sign", "hash", "zero", "sk", "shk", "new", "fst", "snd", "dec", "adec", "open", "read", "fst", "snd", "dec", "adec", "open", "read"}
	adding      = []string{"xor", "xor", "xor", "zero", "hash"}
	multiplying = []string{"exp", "exp", "mul", "mul", "inv", "one"}
	everything  = slices.Concat(destructing, adding, multiplying)
)

// randomLeaf returns one of a few atoms and variables.
func randomLeaf(r *rand.Rand) api.Term {
	switch r.IntN(8) {
	case 0:
		return variable(pick(r, []string{"x", "y", "xor"}), pick(r, []int{api.SortAny, api.SortNonce}))
	case 1:
		return atom(pick(r, []string{"a", "one", "fst"}), api.SortNonce)
	}
	return atom(pick(r, []string{"a", "b"}), api.SortAny)
}

// randomTerm returns a term that is valid in the theory, with at most the given
// depth, and only these symbols, and those that the destructors open.
func randomTerm(r *rand.Rand, symbols []string, depth int) api.Term {
	if depth <= 2 || r.IntN(6) == 0 {
		return randomLeaf(r)
	}
	kid := func() api.Term { return randomTerm(r, symbols, depth-1) }
	agent := func() api.Term {
		return pick(r, []api.Term{atom("a", api.SortAgent), atom("b", api.SortAgent), variable("x", api.SortAgent)})
	}
	switch name := pick(r, symbols); name {
	case "sk":
		return app(name, agent())
	case "shk":
		return app(name, agent(), agent())
	case "new":
		return app(name, append([]api.Term{randomAtom(r)}, kids(r.IntN(3), kid)...)...)
	case "zero", "one":
		return app(name)
	case "pk", "hash", "inv":
		return app(name, kid())
	case "xor", "mul":
		return app(name, kids(2+r.IntN(3), kid)...)
	case "fst", "snd", "dec", "adec", "open", "read":
		return randomOpening(r, name, symbols, depth)
	default:
		return app(name, kid(), kid())
	}
}

func randomAtom(r *rand.Rand) api.Term {
	return atom(pick(r, []string{"a", "b"}), r.IntN(6))
}

// kids returns n terms.
func kids(n int, kid func() api.Term) []api.Term {
	var l []api.Term
	for range n {
		l = append(l, kid())
	}
	return l
}

// randomOpening returns an application of a destructor, often one whose rule
// fits, or nearly fits.
func randomOpening(r *rand.Rand, name string, symbols []string, depth int) api.Term {
	k := randomTerm(r, symbols, depth-3)
	m := randomTerm(r, symbols, depth-2)
	l := k
	if r.IntN(4) == 0 {
		l = randomTerm(r, symbols, depth-3)
	}
	constructor := map[string]string{"fst": "pair", "snd": "pair", "dec": "enc", "adec": "aenc", "open": "sign", "read": "sign"}[name]
	if r.IntN(5) == 0 {
		constructor = pick(r, []string{"pair", "enc", "aenc", "sign"})
	}
	inner, outer := k, l
	switch {
	case name == "adec" && r.IntN(5) > 0:
		inner = app("pk", k)
	case name == "open" && r.IntN(5) > 0:
		outer = app("pk", l)
	}
	opened := app(constructor, m, inner)
	if r.IntN(8) == 0 {
		opened = m
	}
	if name == "fst" || name == "snd" || name == "read" {
		return app(name, opened)
	}
	return app(name, opened, outer)
}

// randomPlaces returns the positions of t at which any term may stand.
func randomPlaces(t api.Term) [][]int {
	places := [][]int{{}}
	for i, kid := range t.Kids {
		if t.Name == "sk" || t.Name == "shk" || t.Name == "new" && i == 0 {
			continue
		}
		for _, p := range randomPlaces(kid) {
			places = append(places, append([]int{i}, p...))
		}
	}
	return places
}

// normalOf returns the normal form of a term that has one.
func normalOf(t *testing.T, x api.Term) api.Term {
	t.Helper()
	n, e := theory.Normal(x)
	if e != api.OK {
		t.Fatalf("Normal(%s): %v", text(x), e)
	}
	return n
}
