package knowledge_test

import (
	"math/rand/v2"
	"slices"
	"testing"

	"sealring/api"
	"sealring/knowledge"
)

// wide returns terms with n different subterms in all, and few each.
func wide(n int) []api.Term {
	var l []api.Term
	for i, a := range atoms("w", (n+3)/4) {
		l = append(l, tower(min(4, n-4*i), "hash", a))
	}
	return l
}

// P10.1: Universe returns all subterms, in order, each once.
func TestUniverse(t *testing.T) {
	for _, c := range []struct{ k, t, want string }{
		{"", "a:any", "a:any"},
		{"", "g:data", "g:data"},
		{"a:any", "a:any", "a:any"},
		{"b:any; a:any", "c:any", "a:any; b:any; c:any"},
		{"hash(a:any)", "hash(hash(a:any))", "a:any; hash(a:any); hash(hash(a:any))"},
		{"pair(b:any, a:any); a:any", "enc(b:any, a:any)", "a:any; b:any; enc(b:any, a:any); pair(b:any, a:any)"},
		{"sk(a:agent)", "new(n:nonce, zero())", "a:agent; n:nonce; zero(); sk(a:agent); new(n:nonce, zero())"},
		{"exp(g:data, mul(a:any, inv(b:any)))", "one()", "a:any; b:any; g:data; one(); inv(b:any); mul(a:any, inv(b:any)); exp(g:data, mul(a:any, inv(b:any)))"},
		{"", "xor(a:any, b:any, c:any)", "a:any; b:any; c:any; xor(a:any, b:any, c:any)"},
	} {
		k, x := all(t, c.k), must(t, c.t)
		got, e := knowledge.Universe(k, x)
		if e != api.OK || texts(got) != c.want {
			t.Errorf("%s, %s: %s, %v", c.k, c.t, texts(got), e)
		}
		isNew(t, c.t, got, append(k, x)...)
	}
}

// P10.1: the universe is that of the definition, or has its error.
func TestUniverseOfRandomTerms(t *testing.T) {
	r := rand.New(rand.NewPCG(1, 1))
	found, large := 0, 0
	for i := range 4000 {
		kind := kinds[i%len(kinds)]
		k := randomList(r, kind.symbols, 8, kind.depth+1)
		x := randomPlain(r, kind.symbols, kind.depth)
		got, e := knowledge.Universe(k, x)
		want, f := refUniverse(k, x)
		if e != f || !sameTerms(got, want) {
			t.Fatalf("%s, %s: %s, %v, not %s, %v", texts(k), text(x), texts(got), e, texts(want), f)
		}
		if e == api.OK {
			found++
		} else {
			large++
		}
	}
	if found < 2000 || large < 200 {
		t.Errorf("%d universes, %d errors only", found, large)
	}
}

// A question is a list and a term with an error, or with none.
type question struct {
	k    []api.Term
	t    api.Term
	want api.Errno
}

// questions are those with the errors of Universe, Derivable and Opens.
func questions(t *testing.T) map[string]question {
	a := atom("a", api.SortAny)
	long := slices.Repeat([]api.Term{a}, 60)
	many := atoms("b", 60)
	exps := func(n int) []api.Term {
		var l []api.Term
		for _, f := range atoms("f", n) {
			l = append(l, app("exp", a, f))
		}
		return l
	}
	l := map[string]question{
		"nothing":                     {nil, a, api.OK},
		"60 terms":                    {long, a, api.OK},
		"61 terms":                    {append(slices.Clone(long), a), a, api.ErrTooLarge},
		"60 different terms":          {many, a, api.OK},
		"61 different terms":          {append(slices.Clone(many), a), a, api.ErrTooLarge},
		"61 terms, not valid":         {make([]api.Term, 61), a, api.ErrTooLarge},
		"61 terms and a bad one":      {append(slices.Clone(long), a), api.Term{}, api.ErrTooLarge},
		"60 terms and a bad one":      {long, api.Term{}, api.ErrInvalid},
		"60 terms, a bad one":         {append(slices.Clone(long[:59]), app("f")), api.Term{}, api.ErrType},
		"first before second":         {[]api.Term{app("fst", a), app("f"), app("pair")}, api.Term{}, api.ErrType},
		"first before second, too":    {[]api.Term{a, variable("x", 0), app("fst", a)}, app("pair"), api.ErrUnbound},
		"list before the term":        {[]api.Term{app("pair")}, variable("x", 0), api.ErrArity},
		"200 terms":                   {wide(199), a, api.OK},
		"200 terms, the term is one":  {wide(200), atoms("w", 1)[0], api.OK},
		"201 terms":                   {wide(200), a, api.ErrTooLarge},
		"201 terms, of the list":      {wide(201), atoms("w", 1)[0], api.ErrTooLarge},
		"terms before their number":   {append(wide(201), app("fst", a)), a, api.ErrType},
		"the term before the number":  {wide(201), variable("x", api.SortKey), api.ErrUnbound},
		"4 exponents":                 {all(t, "inv(a:any); inv(b:any); mul(a:any, b:any); inv(a:any)"), must(t, "mul(b:any, b:any)"), api.OK},
		"5 exponents":                 {all(t, "inv(a:any); inv(b:any); mul(a:any, b:any); mul(b:any, b:any)"), must(t, "mul(b:any, b:any, b:any)"), api.ErrTooLarge},
		"5 exponents, in terms":       {all(t, "mul(a:any, inv(b:any))"), must(t, "hash(mul(a:any, inv(c:any), inv(d:any)))"), api.ErrTooLarge},
		"4 exponents, in terms":       {all(t, "mul(a:any, inv(b:any))"), must(t, "hash(mul(a:any, inv(b:any), inv(d:any)))"), api.OK},
		"5 exponents of one":          {nil, must(t, "pair(inv(a:any), mul(b:any, inv(c:any), inv(d:any), inv(e:any)))"), api.ErrTooLarge},
		"terms before exponents":      {all(t, "pair(inv(a:any), mul(b:any, inv(c:any), inv(d:any), inv(e:any)))"), app("fst", a), api.ErrType},
		"8 factors":                   {nil, app("mul", atoms("f", 8)...), api.OK},
		"8 factors of powers":         {exps(8), a, api.OK},
		"9 factors of powers":         {exps(9), a, api.ErrTooLarge},
		"9 factors":                   {[]api.Term{app("mul", atoms("f", 8)...)}, app("inv", a), api.ErrTooLarge},
		"8 factors and a power":       {[]api.Term{app("mul", atoms("f", 8)...)}, app("exp", a, a), api.ErrTooLarge},
		"8 factors, one twice":        {[]api.Term{app("mul", atoms("f", 8)...)}, app("exp", a, atoms("f", 1)[0]), api.OK},
		"8 factors and a base":        {exps(7), app("exp", must(t, "hash(b:any)"), a), api.OK},
		"8 factors and no exponents":  {exps(8), must(t, "hash(pair(x:any, y:any))"), api.OK},
		"terms before factors":        {append(exps(9), app("fst", a)), a, api.ErrType},
		"a factor is a sum":           {exps(8), must(t, "exp(a:any, xor(a:any, b:any))"), api.ErrTooLarge},
		"a factor within a factor":    {exps(7), must(t, "exp(a:any, exp(b:any, c:any))"), api.ErrTooLarge},
		"a factor within a factor, 8": {exps(6), must(t, "exp(a:any, exp(b:any, c:any))"), api.OK},
	}
	for what, c := range invalid() {
		l[what+" as the term"] = question{long, c.t, c.want}
		l[what+" in the list"] = question{[]api.Term{a, c.t, a}, a, c.want}
	}
	return l
}

// P10.1: the errors of Universe, Derivable and Opens.
func TestQuestionErrors(t *testing.T) {
	for what, c := range questions(t) {
		if l, e := knowledge.Universe(c.k, c.t); e != c.want || e != api.OK && len(l) > 0 {
			t.Errorf("Universe, %s: %s, %v", what, texts(l), e)
		}
		if is, e := knowledge.Derivable(c.k, c.t); e != c.want || e != api.OK && is {
			t.Errorf("Derivable, %s: %v, %v", what, is, e)
		}
		if l, e := knowledge.Opens(c.k, c.t); e != c.want || e != api.OK && len(l) > 0 {
			t.Errorf("Opens, %s: %s, %v", what, texts(l), e)
		}
	}
}

// P10.1: the errors of Analyze and Minimal are the same, without the term.
func TestListErrors(t *testing.T) {
	a := atom("a", api.SortAny)
	for what, c := range questions(t) {
		k, want := append(slices.Clone(c.k), c.t), c.want
		if len(k) > 60 {
			want = api.ErrTooLarge
		}
		if l, e := knowledge.Analyze(k); e != want || e != api.OK && len(l) > 0 {
			t.Errorf("Analyze, %s: %s, %v", what, texts(l), e)
		}
		if l, e := knowledge.Minimal(k); e != want || e != api.OK && len(l) > 0 {
			t.Errorf("Minimal, %s: %s, %v", what, texts(l), e)
		}
	}
	if l, e := knowledge.Analyze(nil); e != api.OK || len(l) != 0 {
		t.Errorf("Analyze of nothing: %s, %v", texts(l), e)
	}
	if l, e := knowledge.Minimal(nil); e != api.OK || len(l) != 0 {
		t.Errorf("Minimal of nothing: %s, %v", texts(l), e)
	}
	if l, e := knowledge.Minimal(slices.Repeat([]api.Term{a}, 60)); e != api.OK || texts(l) != "a:any" {
		t.Errorf("Minimal of 60: %s, %v", texts(l), e)
	}
}
