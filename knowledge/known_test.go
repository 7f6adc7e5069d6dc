package knowledge_test

import (
	"math/rand/v2"
	"slices"
	"testing"

	"sealring/api"
	"sealring/knowledge"
	"sealring/term"
)

// derivables are lists with terms that are derivable from them, and others that
// are not.
var derivables = []struct{ k, in, out string }{
	// the examples of the document
	{"enc(m:any, k:key); pair(n:nonce, k:key)", "m:any; hash(pair(m:any, n:nonce)); k:key; n:nonce", "l:key; hash(l:key)"},
	{"exp(g:data, x:nonce); y:nonce", "exp(g:data, mul(x:nonce, y:nonce)); exp(g:data, y:nonce)", "x:nonce; mul(x:nonce, y:nonce)"},
	{"mul(x:nonce, y:nonce); y:nonce", "x:nonce; inv(x:nonce); mul(x:nonce, x:nonce, inv(y:nonce))", "z:nonce"},
	{"xor(a:any, b:any); b:any", "a:any; xor(a:any, b:any)", "xor(a:any, c:any)"},

	// nothing: what is public, and what is made of it
	{"", "a:agent; hi:tag; g:data; zero(); one(); e#0:key; e#17:data", "a:any; g:any; g:nonce; e#:nonce; e#x:nonce; sk(a:agent); shk(a:agent, b:agent); new(n:nonce)"},
	{"", "pair(a:agent, g:data); hash(zero()); enc(g:data, e#1:key); aenc(a:agent, g:data); pk(e#1:key); sign(g:data, e#1:key); exp(g:data, e#1:nonce); inv(e#1:any); mul(e#1:nonce, inv(g:data)); xor(a:agent, g:data)", "hash(a:any); pk(sk(a:agent)); sign(g:data, sk(a:agent)); new(a:agent); new(a:agent, g:data)"},

	// rule 1: all kids are needed
	{"a:any; b:any", "pair(a:any, b:any); pair(b:any, b:any); enc(a:any, b:any); aenc(a:any, b:any); aenc(b:any, pk(a:any)); sign(b:any, a:any); hash(a:any); pk(b:any)", "pair(a:any, c:any); pair(c:any, a:any); enc(c:any, a:any); enc(a:any, c:any); aenc(a:any, c:any); aenc(a:any, pk(c:any)); sign(c:any, a:any); sign(a:any, c:any); hash(c:any); pk(c:any); new(a:any, b:any)"},
	{"pair(a:any, b:any)", "a:any; b:any; pair(b:any, a:any)", "c:any"},

	// atoms that are named like symbols are no applications
	{"pair:any; enc:key; aenc:any; sign:any; xor:any; exp:any; mul:nonce; inv:nonce; pk:key", "pair(pair:any, enc:key); exp(exp:any, mul:nonce)", "hash:any; zero:any; one:any; a:any"},

	// rule 2
	{"pair(pair(a:any, b:any), pair(c:any, hash(d:any)))", "a:any; b:any; c:any; hash(d:any)", "d:any"},
	{"enc(m:any, k:key)", "enc(m:any, k:key)", "m:any; k:key"},
	{"enc(m:any, k:key); m:any", "m:any", "k:key"},
	{"enc(m:any, pair(k:key, l:key)); l:key; k:key", "m:any", "n:any"},
	{"enc(m:any, g:data)", "m:any", "n:any"},
	{"enc(m:any, shk(a:agent, b:agent))", "", "m:any; shk(a:agent, b:agent)"},
	{"enc(m:any, shk(a:agent, b:agent)); shk(b:agent, a:agent)", "", "m:any"},
	{"enc(m:any, shk(a:agent, b:agent)); shk(a:agent, b:agent)", "m:any", ""},
	{"enc(enc(m:any, k:key), l:key); pair(l:key, hash(k:key))", "enc(m:any, k:key)", "m:any; k:key"},
	{"enc(a:any, b:any); enc(b:any, c:any); enc(c:any, d:any); d:any", "a:any; b:any; c:any", "e:any"},
	{"enc(a:any, b:any); enc(b:any, a:any)", "", "a:any; b:any"},
	{"enc(k:key, k:key)", "", "k:key"},
	{"aenc(m:any, pk(k:key)); k:key", "m:any", ""},
	{"aenc(m:any, pk(k:key)); pk(k:key)", "", "m:any; k:key"},
	{"aenc(m:any, k:key); k:key", "", "m:any"},
	{"aenc(m:any, k:key); pk(k:key)", "", "m:any"},
	{"aenc(m:any, pk(pk(k:key))); pk(k:key)", "m:any", "k:key"},
	{"aenc(m:any, hash(k:key)); k:key", "hash(k:key)", "m:any"},
	{"sign(pair(a:any, b:any), sk(a:agent))", "a:any; b:any", "sk(a:agent); sign(a:any, sk(a:agent))"},
	{"hash(a:any); pk(k:key); new(n:nonce, b:any)", "", "a:any; k:key; n:nonce; b:any"},
	{"new(n:nonce, b:any); n:nonce; b:any", "new(n:nonce, b:any)", "new(n:nonce, n:nonce)"},

	// rule 3
	{"xor(a:any, b:any); xor(b:any, c:any)", "xor(a:any, c:any)", "a:any; b:any; xor(a:any, b:any, c:any)"},
	{"xor(a:any, b:any); xor(b:any, c:any); xor(a:any, b:any, c:any)", "a:any; b:any; c:any; xor(a:any, c:any)", "d:any; xor(a:any, d:any)"},
	{"xor(a:any, b:any, c:any); b:any", "xor(a:any, c:any)", "a:any; c:any"},
	{"xor(a:any, g:data)", "a:any; xor(a:any, b:agent)", "b:any"},
	{"xor(a:any, hash(b:any)); b:any", "a:any", ""},
	{"xor(a:any, hash(b:any)); a:any", "hash(b:any)", "b:any"},
	{"xor(a:any, pair(b:any, c:any)); xor(b:any, c:any); a:any", "b:any; c:any", ""},
	{"xor(k:key, enc(m:any, k:key)); k:key", "m:any", ""},
	{"xor(k:key, enc(m:any, k:key)); enc(m:any, k:key)", "m:any; k:key", ""},
	{"hash(xor(a:any, b:any))", "", "xor(a:any, b:any); a:any"},
	{"hash(xor(a:any, b:any)); a:any; b:any", "xor(a:any, b:any)", ""},

	// rules 4 and 5
	{"exp(g:data, x:nonce); exp(g:data, y:nonce)", "", "exp(g:data, mul(x:nonce, y:nonce)); x:nonce; exp(g:data, inv(x:nonce))"},
	{"exp(g:data, x:nonce); exp(g:data, y:nonce); x:nonce", "exp(g:data, mul(x:nonce, y:nonce)); exp(g:data, inv(x:nonce)); exp(g:data, mul(x:nonce, x:nonce))", "y:nonce; exp(h:data, x:nonce)"},
	{"exp(h:any, x:nonce); x:nonce", "h:any; exp(h:any, mul(x:nonce, x:nonce))", "exp(h:any, y:nonce)"},
	{"exp(h:any, mul(x:nonce, y:nonce)); y:nonce", "exp(h:any, x:nonce)", "h:any; exp(h:any, y:nonce)"},
	{"exp(h:any, mul(x:nonce, inv(y:nonce))); y:nonce", "exp(h:any, x:nonce)", "h:any"},
	{"exp(h:any, x:nonce); mul(x:nonce, y:nonce)", "exp(h:any, inv(y:nonce))", "h:any; x:nonce; exp(h:any, y:nonce)"},
	{"exp(hash(a:any), x:nonce); x:nonce", "hash(a:any)", "a:any"},
	{"exp(hash(a:any), x:nonce); a:any", "hash(a:any)", "x:nonce"},
	{"exp(g:data, x:nonce)", "g:data", "x:nonce; inv(x:nonce); exp(x:nonce, x:nonce)"},
	{"x:nonce; h:any", "exp(h:any, x:nonce); exp(x:nonce, h:any); exp(h:any, inv(x:nonce))", "exp(h:any, y:nonce)"},
	{"mul(x:nonce, y:nonce); mul(x:nonce, inv(y:nonce))", "mul(x:nonce, x:nonce); mul(y:nonce, y:nonce)", "x:nonce; y:nonce; mul(x:nonce, x:nonce, y:nonce)"},
	{"mul(x:nonce, x:nonce); mul(x:nonce, x:nonce, x:nonce)", "x:nonce; inv(x:nonce)", "y:nonce"},
	{"mul(x:nonce, x:nonce)", "mul(x:nonce, x:nonce, x:nonce, x:nonce)", "x:nonce; mul(x:nonce, x:nonce, x:nonce)"},
	{"inv(x:nonce)", "x:nonce; mul(x:nonce, x:nonce)", "y:nonce"},
	{"inv(hash(a:any))", "hash(a:any)", "a:any"},
	{"mul(x:nonce, pair(a:any, b:any)); x:nonce", "a:any; b:any", ""},
	{"mul(x:nonce, hash(a:any)); a:any", "x:nonce", ""},
	{"hash(mul(x:nonce, y:nonce)); x:nonce", "", "y:nonce; mul(x:nonce, y:nonce)"},
	{"enc(m:any, exp(g:data, mul(x:nonce, y:nonce))); exp(g:data, x:nonce); y:nonce", "m:any", "x:nonce"},
	{"enc(m:any, exp(g:data, mul(x:nonce, y:nonce))); exp(g:data, x:nonce); exp(g:data, y:nonce)", "", "m:any"},

	// all rules together
	{"xor(k:key, exp(g:data, mul(x:nonce, y:nonce))); exp(g:data, x:nonce); pair(y:nonce, enc(m:any, hash(k:key)))", "m:any; k:key", "x:nonce"},
	{"exp(xor(a:any, b:any), x:nonce); enc(x:nonce, a:any); a:any", "b:any; xor(a:any, b:any)", "c:any"},
}

// P10.1: Derivable decides what is derivable.
func TestDerivable(t *testing.T) {
	for _, c := range derivables {
		k := all(t, c.k)
		for _, want := range []bool{true, false} {
			l := c.out
			if want {
				l = c.in
			}
			for _, s := range split(l) {
				x, e := term.Parse(s)
				if e != api.OK {
					t.Errorf("%q: %v", s, e)
					continue
				}
				if got, e := knowledge.Derivable(k, x); got != want || e != api.OK {
					t.Errorf("%s: %s: %v, %v", c.k, s, got, e)
				}
				if refDerivable(k, x) != want {
					t.Errorf("%s: %s: by the definition not %v", c.k, s, want)
				}
			}
		}
		for _, x := range k {
			if got, e := knowledge.Derivable(k, x); !got || e != api.OK {
				t.Errorf("%s: %s: %v, %v", c.k, text(x), got, e)
			}
		}
	}
}

// P10.1: Known and Derivable are as the definition says, on random terms of all
// kinds, for universes in any order.
func TestKnownOfRandomTerms(t *testing.T) {
	r := rand.New(rand.NewPCG(2, 2))
	var found [4][2]int
	for i := range 8000 {
		kind := kinds[i%len(kinds)]
		k := randomList(r, kind.symbols, 6, kind.depth)
		x := randomGoal(r, kind.symbols, k)
		universe, e := refUniverse(k, x)
		if e != api.OK || !small(universe) {
			continue
		}
		want := refKnown(k, universe)
		mixed := slices.Concat(universe, universe[:r.IntN(len(universe))])
		r.Shuffle(len(mixed), func(i, k int) { mixed[i], mixed[k] = mixed[k], mixed[i] })
		before := texts(mixed)
		got, e := knowledge.Known(k, mixed)
		if e != api.OK || !sameTerms(got, want) || texts(mixed) != before {
			t.Fatalf("%s; %s: %s, %v, not %s", texts(k), text(x), texts(got), e, texts(want))
		}
		isNew(t, "Known", got, append(mixed, k...)...)
		is, e := knowledge.Derivable(k, x)
		if e != api.OK || is != has(want, x) {
			t.Fatalf("%s; %s: %v, %v", texts(k), text(x), is, e)
		}
		switch {
		case !is:
			found[i%len(kinds)][0]++
		case !has(k, x) && !refPublic(x):
			found[i%len(kinds)][1]++
		}
	}
	for i, n := range found {
		if n[0] < 150 || n[1] < 150 {
			t.Errorf("kind %d: %d and %d cases only", i, n[0], n[1])
		}
	}
}

// P10.1: the universe of Known may be larger than that of a question; more of
// it may then be known.
func TestKnownOfOtherUniverses(t *testing.T) {
	for _, c := range []struct{ k, universe, want string }{
		{"", "", ""},
		{"", "a:any", ""},
		{"a:any", "a:any", "a:any"},
		{"a:any", "hash(b:any); a:any; b:any; a:any", "a:any"},
		{"a:any", "hash(a:any); a:any", "a:any; hash(a:any)"},
		{"", "pair(g:data, e#1:any); one(); e#1:any; g:data; b:any", "e#1:any; g:data; one(); pair(g:data, e#1:any)"},
		{"a:any; a:any", "b:any; xor(a:any, b:any); a:any", "a:any"},
		{"xor(a:any, b:any); a:any", "b:any; xor(a:any, b:any); a:any; hash(b:any); hash(hash(b:any))", "a:any; b:any; hash(b:any); hash(hash(b:any)); xor(a:any, b:any)"},
	} {
		k, universe := all(t, c.k), all(t, c.universe)
		if got, e := knowledge.Known(k, universe); e != api.OK || texts(got) != c.want {
			t.Errorf("%s; %s: %s, %v", c.k, c.universe, texts(got), e)
		}
	}
}

// P10.1: the errors of Known.
func TestKnownErrors(t *testing.T) {
	a, b := atom("a", api.SortAny), atom("b", api.SortAny)
	long := slices.Repeat([]api.Term{a}, 60)
	exponents := all(t, "a:any; b:any; mul(a:any, b:any); mul(a:any, a:any); mul(b:any, b:any); inv(a:any); inv(b:any)")
	factors := append(atoms("f", 8), a, app("mul", atoms("f", 8)...))
	type asked struct {
		k, universe []api.Term
		want        api.Errno
	}
	cases := map[string]asked{
		"60 terms":                    {long, []api.Term{a}, api.OK},
		"61 terms":                    {append(slices.Clone(long), a), []api.Term{a}, api.ErrTooLarge},
		"61 terms that are not valid": {make([]api.Term, 61), make([]api.Term, 200), api.ErrTooLarge},
		"a universe of 200":           {nil, atoms("u", 200), api.OK},
		"a universe of 201":           {nil, atoms("u", 201), api.ErrTooLarge},
		"one term 201 times":          {nil, slices.Repeat([]api.Term{a}, 201), api.ErrTooLarge},
		"200 terms that have others":  {nil, append(atoms("u", 199), app("hash", a)), api.ErrNotFound},
		"201 bad terms":               {[]api.Term{{}}, make([]api.Term, 201), api.ErrTooLarge},
		"list before universe":        {[]api.Term{app("fst", a)}, []api.Term{app("pair")}, api.ErrType},
		"terms before places":         {[]api.Term{a}, []api.Term{b, variable("x", 0)}, api.ErrUnbound},
		"places before the other way": {[]api.Term{a}, []api.Term{app("hash", b), {}}, api.ErrInvalid},
		"a term of the list":          {[]api.Term{a}, []api.Term{b}, api.ErrNotFound},
		"a term of the list, no one":  {[]api.Term{a}, nil, api.ErrNotFound},
		"the second of the list":      {[]api.Term{a, b}, []api.Term{a}, api.ErrNotFound},
		"a public term of the list":   {[]api.Term{app("zero")}, []api.Term{a}, api.ErrNotFound},
		"a term with its parts":       {[]api.Term{app("hash", a)}, []api.Term{a}, api.ErrNotFound},
		"a kid":                       {nil, []api.Term{app("hash", a)}, api.ErrNotFound},
		"a kid below":                 {nil, []api.Term{app("hash", a), app("hash", app("hash", a))}, api.ErrNotFound},
		"a public kid":                {nil, []api.Term{app("hash", app("zero"))}, api.ErrNotFound},
		"a kid, as often as terms":    {nil, []api.Term{app("hash", a), app("hash", a)}, api.ErrNotFound},
		"a kid, terms twice":          {nil, []api.Term{app("hash", a), b, app("hash", a)}, api.ErrNotFound},
		"the other sort":              {nil, []api.Term{app("hash", a), atom("a", api.SortKey)}, api.ErrNotFound},
		"4 exponents":                 {nil, exponents[:6], api.OK},
		"5 exponents":                 {nil, exponents, api.ErrTooLarge},
		"4 exponents, one twice":      {nil, append(slices.Clone(exponents[:6]), exponents[5]), api.OK},
		"places before exponents":     {[]api.Term{atom("c", 0)}, exponents, api.ErrNotFound},
		"8 factors":                   {nil, factors, api.OK},
		"9 factors":                   {nil, append(slices.Clone(factors), app("inv", a)), api.ErrTooLarge},
		"9 factors by a power":        {nil, append(slices.Clone(factors), app("exp", a, a)), api.ErrTooLarge},
		"places before factors":       {nil, append(slices.Clone(factors), app("inv", b), app("inv", a)), api.ErrNotFound},
	}
	for what, c := range invalid() {
		cases[what+" in the list"] = asked{[]api.Term{a, c.t}, []api.Term{a}, c.want}
		cases[what+" in the universe"] = asked{[]api.Term{a}, []api.Term{b, c.t}, c.want}
	}
	for what, c := range cases {
		if l, e := knowledge.Known(c.k, c.universe); e != c.want || e != api.OK && len(l) > 0 {
			t.Errorf("%s: %s, %v", what, texts(l), e)
		}
	}
}

// P10.1: Analyze returns the known subterms, in order.
func TestAnalyze(t *testing.T) {
	for _, c := range []struct{ k, want string }{
		{"", ""},
		{"a:any", "a:any"},
		{"g:data; a:any; a:any", "a:any; g:data"},
		{"hash(pair(a:agent, b:any))", "a:agent; hash(pair(a:agent, b:any))"},
		{"enc(pair(m:any, n:nonce), k:key); k:key; hash(n:nonce); enc(d:any, l:key)", "k:key; m:any; n:nonce; hash(n:nonce); enc(d:any, l:key); pair(m:any, n:nonce); enc(pair(m:any, n:nonce), k:key)"},
		{"hash(pair(a:any, b:any)); b:any; a:any", "a:any; b:any; pair(a:any, b:any); hash(pair(a:any, b:any))"},
	} {
		k := all(t, c.k)
		got, e := knowledge.Analyze(k)
		if e != api.OK || texts(got) != c.want {
			t.Errorf("%s: %s, %v", c.k, texts(got), e)
		}
		isNew(t, c.k, got, k...)
	}
	r := rand.New(rand.NewPCG(3, 3))
	for i := range 2000 {
		kind := kinds[i%len(kinds)]
		k := randomList(r, kind.symbols, 6, kind.depth)
		universe, e := refUniverse(k)
		if e != api.OK || !small(universe) {
			continue
		}
		if got, e := knowledge.Analyze(k); e != api.OK || !sameTerms(got, refKnown(k, universe)) {
			t.Fatalf("%s: %s, %v", texts(k), texts(got), e)
		}
	}
}

// P10.1: Minimal leaves out what is derivable from the others, from the last
// one on, and keeps the order.
func TestMinimal(t *testing.T) {
	for _, c := range []struct{ k, want string }{
		{"a:any; b:any", "a:any; b:any"},
		{"b:any; a:any", "b:any; a:any"},
		{"a:any; b:any; a:any", "a:any; b:any"},
		{"a:any; a:any; a:any", "a:any"},
		{"zero(); a:agent; b:any; e#1:nonce", "b:any"},
		{"n:nonce; pair(n:nonce, a:agent); a:agent", "n:nonce"},
		{"pair(n:nonce, a:agent); n:nonce", "pair(n:nonce, a:agent)"},
		{"hash(n:nonce); n:nonce", "n:nonce"},
		{"enc(pair(m:any, n:nonce), k:key); k:key; hash(n:nonce); enc(d:any, l:key)", "enc(pair(m:any, n:nonce), k:key); k:key; enc(d:any, l:key)"},
		// each of the three sums is the sum of the others
		{"xor(a:any, b:any); xor(b:any, c:any); xor(a:any, c:any)", "xor(a:any, b:any); xor(b:any, c:any)"},
		{"xor(a:any, b:any); a:any; b:any", "xor(a:any, b:any); a:any"},
		{"exp(g:data, x:nonce); x:nonce", "x:nonce"},
		{"mul(x:nonce, y:nonce); x:nonce; y:nonce", "mul(x:nonce, y:nonce); x:nonce"},
	} {
		k := all(t, c.k)
		got, e := knowledge.Minimal(k)
		if e != api.OK || texts(got) != c.want {
			t.Errorf("%s: %s, %v", c.k, texts(got), e)
		}
		isNew(t, c.k, got, k...)
	}
	r := rand.New(rand.NewPCG(4, 4))
	shorter := 0
	for i := range 2000 {
		kind := kinds[i%len(kinds)]
		k := randomList(r, kind.symbols, 7, kind.depth)
		if universe, e := refUniverse(k); e != api.OK || !small(universe) {
			continue
		}
		before := texts(k)
		got, e := knowledge.Minimal(k)
		if e != api.OK || !sameTerms(got, refMinimal(k)) || texts(k) != before {
			t.Fatalf("%s: %s, %v", texts(k), texts(got), e)
		}
		if len(got) > 0 && len(got) < len(k) {
			shorter++
		}
	}
	if shorter < 300 {
		t.Errorf("%d lists only", shorter)
	}
}

// P10.1: Opens returns the single keys that are missing.
func TestOpens(t *testing.T) {
	for _, c := range []struct{ k, t, want string }{
		// the examples of the document
		{"enc(enc(m:any, k:key), l:key)", "m:any", ""},
		{"enc(m:any, l:key)", "m:any", "l:key"},

		{"", "m:any", ""},
		{"enc(m:any, l:key); l:key", "m:any", ""},
		{"enc(m:any, l:key); m:any", "m:any", ""},
		{"enc(m:any, l:key)", "g:data", ""},
		{"enc(m:any, l:key)", "n:any", ""},
		{"enc(m:any, l:key)", "l:key", "l:key"},
		{"enc(m:any, l:key)", "hash(pair(l:key, m:any))", "l:key"},
		{"enc(m:any, l:key)", "hash(pair(l:key, n:any))", ""},
		{"enc(m:any, l:key); aenc(m:any, pk(sk(a:agent)))", "m:any", "l:key; sk(a:agent)"},
		{"aenc(m:any, pk(sk(a:agent)))", "m:any", "sk(a:agent)"},
		{"aenc(m:any, l:key)", "m:any", ""},
		{"aenc(m:any, l:key)", "l:key", ""},
		{"aenc(m:any, hash(l:key))", "l:key", ""},
		{"sign(m:any, l:key)", "l:key", ""},
		{"hash(l:key)", "l:key", ""},
		{"enc(enc(m:any, k:key), l:key); enc(k:key, l:key)", "m:any", "l:key"},
		{"enc(enc(m:any, k:key), l:key); enc(l:key, k:key)", "m:any", "k:key"},
		{"enc(m:any, pair(k:key, l:key)); k:key", "m:any", "pair(k:key, l:key)"},
		{"enc(m:any, pair(k:key, l:key)); k:key; hash(enc(n:any, l:key))", "m:any", "l:key; pair(k:key, l:key)"},
		// an enc that only the goal has makes a key, too
		{"l:key", "enc(m:any, l:key)", ""},
		{"m:any", "enc(m:any, l:key)", "l:key"},
		{"m:any", "hash(aenc(m:any, pk(l:key)))", "l:key"},
		{"enc(xor(m:any, n:any), k:key); n:any", "m:any", "k:key"},
		{"enc(x:nonce, k:key); exp(h:any, x:nonce)", "h:any", "k:key"},
	} {
		k, x := all(t, c.k), must(t, c.t)
		got, e := knowledge.Opens(k, x)
		if e != api.OK || texts(got) != c.want {
			t.Errorf("%s; %s: %s, %v", c.k, c.t, texts(got), e)
		}
		isNew(t, c.k, got, append(k, x)...)
	}
	r := rand.New(rand.NewPCG(5, 5))
	found := 0
	for i := range 4000 {
		kind := kinds[i%len(kinds)]
		k := randomList(r, kind.symbols, 5, kind.depth)
		x := randomGoal(r, kind.symbols, k)
		if universe, e := refUniverse(k, x); e != api.OK || !small(universe) {
			continue
		}
		got, e := knowledge.Opens(k, x)
		if e != api.OK || !sameTerms(got, refKeys(k, x)) {
			t.Fatalf("%s; %s: %s, %v", texts(k), text(x), texts(got), e)
		}
		if len(got) > 0 {
			found++
		}
	}
	if found < 200 {
		t.Errorf("%d cases only", found)
	}
}

// P10.1: with 60 terms, one more key can still open a term.
func TestOpensOfManyTerms(t *testing.T) {
	k := append(atoms("a", 59), must(t, "enc(m:any, l:key)"))
	if got, e := knowledge.Opens(k, must(t, "m:any")); e != api.OK || texts(got) != "l:key" {
		t.Errorf("%s, %v", texts(got), e)
	}
}

// P10.1: Same compares what two lists derive.
func TestSame(t *testing.T) {
	for _, c := range []struct {
		k, l string
		want bool
	}{
		{"", "", true},
		{"", "a:agent; zero(); hash(e#1:nonce)", true},
		{"", "a:any", false},
		{"a:any", "a:any; a:any", true},
		{"a:any; b:any", "b:any; a:any", true},
		{"pair(n:nonce, m:any)", "m:any; n:nonce", true},
		{"pair(n:nonce, m:any)", "m:any", false},
		{"pair(n:nonce, m:any)", "n:nonce; m:any; c:any", false},
		{"n:nonce; m:any; c:any", "pair(n:nonce, m:any)", false},
		{"xor(a:any, b:any); b:any", "a:any; b:any", true},
		{"xor(a:any, b:any); b:any", "a:any", false},
		{"mul(x:nonce, x:nonce)", "x:nonce", false},
		{"mul(x:nonce, x:nonce); mul(x:nonce, x:nonce, x:nonce)", "x:nonce", true},
		{"enc(m:any, k:key); k:key", "m:any; k:key", true},
	} {
		k, l := all(t, c.k), all(t, c.l)
		if got, e := knowledge.Same(k, l); got != c.want || e != api.OK {
			t.Errorf("%s; %s: %v, %v", c.k, c.l, got, e)
		}
		if got, e := knowledge.Same(l, k); got != c.want || e != api.OK {
			t.Errorf("%s; %s: %v, %v", c.l, c.k, got, e)
		}
	}
}

// P10.1: the errors of Same, which asks no further if a term is not derivable.
func TestSameErrors(t *testing.T) {
	a, b := atom("a", api.SortAny), atom("b", api.SortAny)
	long := slices.Repeat([]api.Term{a}, 61)
	fourTimes := all(t, "mul(a:any, b:any); inv(a:any); inv(b:any); mul(a:any, a:any)")
	more := must(t, "mul(b:any, b:any)")
	type asked struct {
		k, l []api.Term
		want api.Errno
	}
	cases := map[string]asked{
		"61 and 60 terms":               {long, long[:60], api.ErrTooLarge},
		"60 and 61 terms":               {long[:60], long, api.ErrTooLarge},
		"60 and 60 terms":               {long[:60], long[:60], api.OK},
		"first before second":           {[]api.Term{app("pair")}, long, api.ErrArity},
		"first before the second bad":   {[]api.Term{app("pair")}, []api.Term{{}}, api.ErrArity},
		"second before the answer":      {[]api.Term{a}, []api.Term{b, {}}, api.ErrInvalid},
		"exponents of both":             {fourTimes, []api.Term{more}, api.ErrTooLarge},
		"exponents of both, back":       {[]api.Term{more}, fourTimes, api.OK},
		"exponents behind another term": {fourTimes, []api.Term{a, more}, api.ErrTooLarge},
		"exponents behind a wrong term": {fourTimes, []api.Term{atom("c", api.SortAny), more}, api.OK},
		"exponents before a wrong term": {fourTimes, []api.Term{more, atom("c", api.SortAny)}, api.ErrTooLarge},
		"exponents the other way":       {[]api.Term{a, b, more}, fourTimes, api.ErrTooLarge},
		"a large universe of both":      {wide(200), []api.Term{b}, api.ErrTooLarge},
		"a large universe, back":        {[]api.Term{g()}, wide(200), api.OK},
	}
	for what, c := range invalid() {
		cases[what+" in the first list"] = asked{[]api.Term{a, c.t}, []api.Term{a}, c.want}
		cases[what+" in the second list"] = asked{[]api.Term{a}, []api.Term{b, c.t}, c.want}
	}
	for what, c := range cases {
		if is, e := knowledge.Same(c.k, c.l); e != c.want || e != api.OK && is {
			t.Errorf("%s: %v, %v", what, is, e)
		}
	}
}

// g returns a public term.
func g() api.Term {
	return atom("g", api.SortData)
}
