package refute_test

import (
	"math/rand/v2"
	"slices"
	"testing"
	"time"

	"sealring/api"
	"sealring/refute"
	"sealring/term"
	"sealring/theory"
)

// steps are lists with terms to which one step leads, and others to which none
// does: what is public counts as known only if it is in the list.
var steps = []struct{ s, in, out string }{
	// the examples of the document and what is public
	{"enc(m:any, k:key)", "enc(m:any, k:key)", "k:key; m:any"},
	{"", "a:agent; hi:tag; g:data; e#0:nonce; e#12:any; zero(); one()", "a:any; h:data; e#:any; e#1x:any; sk(a:agent); shk(a:agent, b:agent); new(a:agent); pair(a:agent, a:agent); hash(zero()); xor(e#1:any, e#2:any); mul(e#1:any, e#2:any); inv(e#1:any); exp(g:data, e#1:any)"},

	// rule 1
	{"a:any; b:any", "a:any; pair(a:any, b:any); pair(b:any, b:any); enc(a:any, b:any); aenc(b:any, a:any); pk(a:any); sign(b:any, a:any); hash(a:any)", "pair(a:any, c:any); pair(c:any, a:any); enc(a:any, c:any); aenc(c:any, a:any); sign(a:any, c:any); hash(c:any); pk(c:any); hash(hash(a:any)); aenc(a:any, pk(b:any)); pair(a:any, b:agent); a:key; new(a:any); new(a:any, b:any)"},
	{"a:agent; b:agent", "pair(a:agent, b:agent)", "sk(a:agent); shk(a:agent, b:agent); new(a:agent, b:agent)"},
	{"pk(b:any); a:any", "aenc(a:any, pk(b:any))", "aenc(a:any, b:any)"},

	// rule 2
	{"pair(pair(a:any, b:any), c:any)", "pair(a:any, b:any); c:any", "a:any; b:any"},
	{"enc(m:any, k:key); k:key", "m:any; k:key", "k:any; hash(m:any)"},
	{"enc(m:any, a:agent)", "a:agent", "m:any"},
	{"enc(m:any, a:agent); a:agent", "m:any", ""},
	{"enc(m:any, pair(k:key, l:key)); k:key; l:key", "pair(k:key, l:key)", "m:any"},
	{"enc(m:any, pk(k:key)); k:key", "", "m:any"},
	{"aenc(m:any, pk(k:key)); k:key", "m:any; pk(k:key)", "m:key"},
	{"aenc(m:any, pk(k:key)); pk(k:key)", "", "m:any; k:key"},
	{"aenc(m:any, k:key); k:key", "", "m:any"},
	{"aenc(m:any, hash(k:key)); k:key; hash(k:key)", "", "m:any"},
	{"aenc(m:any, pk(a:agent))", "", "m:any; pk(a:agent)"},
	{"aenc(m:any, pk(sk(i:agent))); sk(i:agent)", "m:any", "sk(a:agent)"},
	{"sign(pair(a:any, b:any), k:key)", "pair(a:any, b:any)", "a:any; k:key"},
	{"hash(a:any); pk(a:any); new(a:any, b:any); sk(a:agent)", "a:agent", "a:any; b:any"},
	{"pair:any; sign:any; enc:any; xor:any", "pair(pair:any, enc:any)", "hash:any"},

	// rule 3
	{"xor(a:any, b:any); b:any", "a:any", "c:any; xor(a:any, c:any)"},
	{"xor(a:any, b:any); hash(b:any)", "", "a:any; b:any; xor(b:any, hash(b:any))"},
	{"xor(a:any, b:any); xor(b:any, c:any)", "xor(a:any, c:any)", "a:any; b:any; xor(a:any, b:any, c:any)"},
	{"xor(a:any, b:any); xor(b:any, c:any); xor(a:any, b:any, c:any)", "a:any; b:any; c:any", "d:any; xor(a:any, d:any)"},
	{"xor(a:any, g:data)", "g:data", "a:any"},
	{"xor(a:any, g:data); g:data", "a:any", ""},
	{"a:any; b:any; c:any", "xor(a:any, b:any); xor(a:any, b:any, c:any)", "xor(a:any, d:any); xor(a:any, b:agent)"},
	{"a:any; b:any; xor(c:any, d:any); xor(d:any, e:any)", "xor(a:any, c:any, d:any); xor(a:any, b:any, c:any, e:any)", "xor(a:any, c:any); xor(a:any, c:any, f:any); xor(f:any, h:any)"},
	{"hash(xor(a:any, b:any)); a:any; b:any", "xor(a:any, b:any)", ""},
	{"xor(a:any, pair(b:any, c:any)); a:any", "pair(b:any, c:any)", "b:any"},
	{"exp(h:any, xor(a:any, b:any)); a:any; b:any", "", "h:any"},

	// rule 4
	{"g:data; x:nonce", "exp(g:data, x:nonce); exp(g:data, inv(x:nonce)); exp(g:data, mul(x:nonce, x:nonce))", "exp(h:data, x:nonce); exp(g:data, y:nonce)"},
	{"x:nonce", "g:data", "exp(g:data, x:nonce)"},
	{"exp(g:data, x:nonce); y:nonce", "exp(g:data, mul(x:nonce, y:nonce)); exp(g:data, mul(x:nonce, inv(y:nonce)))", "exp(g:data, y:nonce); x:nonce; exp(h:data, x:nonce)"},
	{"exp(h:any, x:nonce); x:nonce", "h:any", "y:nonce"},
	{"exp(h:any, x:nonce)", "", "h:any; exp(h:any, inv(x:nonce))"},
	{"exp(h:any, x:nonce); mul(x:nonce, y:nonce)", "exp(h:any, inv(y:nonce))", "h:any; exp(h:any, y:nonce)"},
	{"exp(h:any, mul(x:nonce, y:nonce)); mul(x:nonce, y:nonce); exp(l:any, x:nonce)", "h:any; exp(h:any, mul(inv(x:nonce), inv(y:nonce))); exp(h:any, mul(x:nonce, x:nonce, y:nonce, y:nonce))", "l:any; exp(h:any, x:nonce); exp(h:any, mul:any)"},
	{"exp(h:any, x:nonce); exp(h:any, y:nonce); x:nonce", "h:any; exp(h:any, mul(x:nonce, x:nonce)); exp(h:any, mul(x:nonce, y:nonce))", "exp(h:any, z:nonce); y:nonce"},
	{"exp(one(), x:nonce); x:nonce", "one()", ""},
	{"exp(h:any, hash(x:nonce)); x:nonce", "", "h:any"},

	// rule 5
	{"x:nonce; y:nonce", "mul(x:nonce, y:nonce); inv(x:nonce); mul(x:nonce, x:nonce, inv(y:nonce))", "mul(x:nonce, z:nonce); inv(z:nonce)"},
	{"mul(x:nonce, y:nonce); y:nonce", "x:nonce; inv(x:nonce); mul(x:nonce, x:nonce, inv(y:nonce))", "z:nonce; exp(x:nonce, y:nonce)"},
	{"mul(x:nonce, x:nonce); mul(x:nonce, x:nonce, x:nonce)", "x:nonce; inv(x:nonce)", "y:nonce"},
	{"mul(x:nonce, x:nonce)", "mul(x:nonce, x:nonce, x:nonce, x:nonce); mul(inv(x:nonce), inv(x:nonce))", "x:nonce; mul(x:nonce, x:nonce, x:nonce)"},
	{"mul(x:nonce, hash(a:any)); a:any", "hash(a:any)", "x:nonce"},
	{"inv(hash(a:any))", "hash(a:any)", "a:any"},
	{"hash(mul(x:nonce, y:nonce)); y:nonce", "", "x:nonce; mul(x:nonce, y:nonce)"},
	{"mul(x:nonce, exp(h:any, y:nonce)); x:nonce; y:nonce", "exp(h:any, y:nonce)", "h:any"},
}

// P12.1: Step follows each of the rules once.
func TestStep(t *testing.T) {
	for _, c := range steps {
		s := all(t, c.s)
		check := func(x api.Term, want bool) {
			for _, l := range [][]api.Term{s, slices.Concat(s, s)} {
				slices.Reverse(l)
				if is, e := refute.Step(l, x); is != want || e != api.OK {
					t.Errorf("%s; %s: %v, %v", texts(l), text(x), is, e)
				}
				if is, e := refStep(l, x); is != want || e != api.OK {
					t.Errorf("%s; %s: %v, %v by the definition", texts(l), text(x), is, e)
				}
			}
		}
		for _, x := range append(all(t, c.in), s...) {
			check(x, true)
		}
		for _, x := range all(t, c.out) {
			check(x, false)
		}
	}
}

// A stepped is a list and a term with the error of Step, or with none.
type stepped struct {
	s    []api.Term
	t    api.Term
	want api.Errno
}

// stepErrors are those with the errors of Step.
func stepErrors(t *testing.T) map[string]stepped {
	a, b := atom("a", api.SortAny), atom("b", api.SortAny)
	four := all(t, "mul(a:any, b:any); inv(a:any); hash(inv(b:any)); exp(a:any, inv(c:any))")
	eight := app("mul", atoms("f", 8)...)
	var powers []api.Term
	for _, x := range atoms("f", 8) {
		powers = append(powers, app("hash", app("exp", a, x)))
	}
	cases := map[string]stepped{
		"no terms":                             {nil, a, api.OK},
		"200 terms":                            {slices.Repeat([]api.Term{a}, 200), b, api.OK},
		"201 terms":                            {slices.Repeat([]api.Term{a}, 201), a, api.ErrTooLarge},
		"201 terms that are not valid":         {make([]api.Term, 201), api.Term{}, api.ErrTooLarge},
		"200 different terms":                  {atoms("a", 200), b, api.OK},
		"more subterms than a universe has":    {towers(200, 4), b, api.OK},
		"4 exponents":                          {four, a, api.OK},
		"4 exponents, again":                   {slices.Concat(four, four), four[0], api.OK},
		"5 exponents":                          {four, must(t, "inv(d:any)"), api.ErrTooLarge},
		"5 exponents, below":                   {four, must(t, "hash(pair(e:any, exp(b:any, inv(d:any))))"), api.ErrTooLarge},
		"5 exponents, in the list":             {append(slices.Clone(four), must(t, "inv(d:any)")), a, api.ErrTooLarge},
		"8 factors":                            {[]api.Term{eight}, a, api.OK},
		"8 factors and one()":                  {[]api.Term{eight, app("one")}, app("one"), api.OK},
		"8 factors, again":                     {[]api.Term{eight, app("exp", a, atom("f0000", api.SortNonce))}, app("exp", b, eight), api.OK},
		"9 factors":                            {[]api.Term{eight}, app("exp", b, a), api.ErrTooLarge},
		"9 factors, in the term":               {nil, app("exp", app("hash", app("exp", b, a)), eight), api.ErrTooLarge},
		"8 factors of powers":                  {powers, app("exp", b, atom("f0007", api.SortNonce)), api.OK},
		"9 factors of powers":                  {powers, app("exp", b, b), api.ErrTooLarge},
		"9 factors of powers and an exponent":  {powers, app("inv", b), api.ErrTooLarge},
		"a bad term before too many exponents": {append(slices.Clone(four), must(t, "inv(d:any)")), variable("x", api.SortAny), api.ErrUnbound},
		"the first one of two bad terms":       {[]api.Term{a, variable("x", api.SortAny), {}}, api.Term{}, api.ErrUnbound},
		"a list before the term":               {[]api.Term{app("fst", a)}, variable("x", api.SortAny), api.ErrType},
	}
	for what, c := range badTerms() {
		cases[what] = stepped{[]api.Term{a, b}, c.t, c.want}
		cases[what+", in the list"] = stepped{[]api.Term{a, c.t}, b, c.want}
		cases[what+", and the same"] = stepped{[]api.Term{a, c.t}, c.t, c.want}
		cases[what+", first"] = stepped{[]api.Term{c.t, {}}, atom("", api.SortAny), c.want}
	}
	return cases
}

// P12.1: the errors of Step.
func TestStepErrors(t *testing.T) {
	for what, c := range stepErrors(t) {
		is, e := refute.Step(c.s, c.t)
		if e != c.want || e != api.OK && is {
			t.Errorf("%s: %v, %v, not %v", what, is, e, c.want)
		}
		if ref, f := refStep(c.s, c.t); ref != is || f != e {
			t.Errorf("%s: %v, %v, but %v, %v by the definition", what, is, e, ref, f)
		}
	}
}

// randomSet returns some terms of a universe, in any order, some of them twice.
func randomSet(r *rand.Rand, universe []api.Term) []api.Term {
	var s []api.Term
	for range r.IntN(2*len(universe) + 1) {
		s = append(s, pick(r, universe))
	}
	return s
}

// P12.1: Step is as the definition says, on sets of random terms of all kinds.
func TestStepOfRandomTerms(t *testing.T) {
	r := rand.New(rand.NewPCG(1, 1))
	var found [4][2]int
	errors := 0
	for i := range 20000 {
		kind := kinds[i%len(kinds)]
		universe := term.Subterms(randomList(r, kind.symbols, 4+i%3, kind.depth))
		s := randomSet(r, universe)
		x := randomGoal(r, kind.symbols, append(slices.Clone(universe), s...))
		if r.IntN(8) == 0 {
			x = randomTerm(r, kind.symbols, kind.depth)
		}
		is, e := refute.Step(s, x)
		want, f := refStep(s, x)
		if is != want || e != f {
			t.Fatalf("%s; %s: %v, %v, not %v, %v", texts(s), text(x), is, e, want, f)
		}
		switch {
		case e != api.OK:
			errors++
		case !is:
			found[i%len(kinds)][0]++
		case !has(s, x):
			found[i%len(kinds)][1]++
		}
	}
	for i, n := range found {
		if n[0] < 800 || n[1] < 300 {
			t.Errorf("kind %d: %v cases only", i, n)
		}
	}
	if errors < 300 {
		t.Errorf("%d errors only", errors)
	}
}

// randomProduct returns a plain product of powers of atoms.
func randomProduct(r *rand.Rand, factors []api.Term) api.Term {
	for {
		l := []api.Term{app("one"), app("one")}
		for range 2 + r.IntN(5) {
			f := pick(r, factors)
			if r.IntN(2) == 0 {
				f = app("inv", f)
			}
			l[r.IntN(2)] = app("mul", l[r.IntN(2)], f)
		}
		t, e := theory.Normal(app("mul", l...))
		if e == api.OK && applies(t, "mul", "inv") {
			return t
		}
	}
}

// randomPowers returns a list and a term with products of up to 8 factors, and
// powers with them, without errors of Step.
func randomPowers(r *rand.Rand) ([]api.Term, api.Term) {
	base := atom("b", api.SortAny)
	for {
		factors := atoms("x", 2+r.IntN(7))
		var exponents []api.Term
		for range 1 + r.IntN(4) {
			exponents = append(exponents, randomProduct(r, factors))
		}
		var l []api.Term
		for _, x := range append(slices.Clone(exponents), pick(r, factors), pick(r, factors)) {
			if r.IntN(3) == 0 {
				x = app("exp", base, x)
			}
			l = append(l, x)
		}
		x := pick(r, append(slices.Clone(exponents), factors...))
		if r.IntN(2) == 0 {
			x = pick(r, []api.Term{base, app("exp", base, x)})
		}
		s := without(randomSet(r, l), []api.Term{x})
		if _, e := refStep(s, x); e == api.OK && len(s) > 0 {
			return s, x
		}
	}
}

// P12.1: Step is as the definition says where products of many factors generate
// others.
func TestStepOfProducts(t *testing.T) {
	r := rand.New(rand.NewPCG(2, 2))
	var found [2]int
	for range 10000 {
		s, x := randomPowers(r)
		is, e := refute.Step(s, x)
		want, f := refStep(s, x)
		if is != want || e != f {
			t.Fatalf("%s; %s: %v, %v, not %v, %v", texts(s), text(x), is, e, want, f)
		}
		switch {
		case !is:
			found[0]++
		case !has(s, x):
			found[1]++
		}
	}
	if found[0] < 1000 || found[1] < 500 {
		t.Errorf("%v cases only", found)
	}
}

// P12.1: Closed returns the first term of the universe that one step adds.
func TestClosed(t *testing.T) {
	for _, c := range []struct {
		s, universe, want string
	}{
		// the examples of the stage
		{"pair(a:any, b:any)", "pair(a:any, b:any); b:any; a:any", "a:any"},
		{"enc(a:any, k:key)", "enc(a:any, k:key); k:key; a:any", ""},

		{"", "", ""},
		{"a:any", "", ""},
		{"", "a:any", ""},
		{"a:any", "a:any", ""},
		{"", "g:data; a:agent", "a:agent"},
		{"a:agent; g:data", "g:data; a:agent", ""},
		{"a:any", "hash(a:any); pair(a:any, a:any); hash(a:any)", "hash(a:any)"},
		{"a:any", "hash(hash(a:any))", ""},
		{"a:any", "hash(hash(a:any)); hash(a:any)", "hash(a:any)"},
		{"a:any; hash(a:any)", "hash(hash(a:any)); hash(a:any)", "hash(hash(a:any))"},
		{"a:any; b:any", "xor(a:any, b:any); mul(a:any, b:any); exp(a:any, b:any)", "exp(a:any, b:any)"},
		{"xor(a:any, b:any)", "a:any; b:any; xor(a:any, b:any)", ""},
		{"mul(x:nonce, x:nonce)", "x:nonce; inv(x:nonce); mul(inv(x:nonce), inv(x:nonce))", "mul(inv(x:nonce), inv(x:nonce))"},
		// the terms of the universe have more exponents in all
		{"inv(a:any); inv(b:any); inv(c:any)", "inv(d:any); inv(e:any); inv(f:any); b:any", "b:any"},
		{"inv(a:any); inv(b:any); inv(c:any)", "inv(d:any); inv(e:any); inv(f:any); h:any", ""},
	} {
		s, universe := all(t, c.s), all(t, c.universe)
		want := api.Term{}
		if c.want != "" {
			want = must(t, c.want)
		}
		for range 2 {
			got, closed := refute.Closed(s, universe)
			if !same(got, want) || closed != (c.want == "") {
				t.Errorf("%s; %s: %s, %v", c.s, c.universe, text(got), closed)
			}
			got, closed = refClosed(s, universe)
			if !same(got, want) || closed != (c.want == "") {
				t.Errorf("%s; %s: %s, %v by the definition", c.s, c.universe, text(got), closed)
			}
			slices.Reverse(universe)
			s = slices.Concat(s, s)
		}
	}
}

// P12.1: Closed has no term and is false where Step has an error, which it has
// not for a universe without terms.
func TestClosedErrors(t *testing.T) {
	a, public := atom("a", api.SortAny), atom("a", api.SortAgent)
	for what, c := range stepErrors(t) {
		got, closed := refute.Closed(c.s, []api.Term{c.t})
		if want, w := refClosed(c.s, []api.Term{c.t}); !same(got, want) || closed != w {
			t.Errorf("%s: %s, %v, not %s, %v", what, text(got), closed, text(want), w)
		}
		if got, closed := refute.Closed(c.s, nil); !closed || !isZero(got) {
			t.Errorf("%s, no universe: %s, %v", what, text(got), closed)
		}
		if c.want == api.OK {
			continue
		}
		for _, universe := range [][]api.Term{{c.t}, {public, c.t}, {c.t, public}, {a, c.t, a}} {
			if got, closed := refute.Closed(c.s, universe); closed || !isZero(got) {
				t.Errorf("%s, %s: %s, %v", what, texts(universe), text(got), closed)
			}
		}
	}
	// A universe may have any number of terms.
	large := append(towers(300, 3), app("hash", a))
	if got, closed := refute.Closed([]api.Term{a}, large); closed || !same(got, app("hash", a)) {
		t.Errorf("%s, %v", text(got), closed)
	}
	if got, closed := refute.Closed([]api.Term{a}, large[:300]); !closed || !isZero(got) {
		t.Errorf("%s, %v", text(got), closed)
	}
}

// P12.1: Closed is as the definition says, on random terms of all kinds.
func TestClosedOfRandomTerms(t *testing.T) {
	r := rand.New(rand.NewPCG(3, 3))
	var found [3]int
	for i := range 4000 {
		kind := kinds[i%len(kinds)]
		universe := term.Subterms(randomList(r, kind.symbols, 4, kind.depth))
		if len(universe) > 25 {
			continue
		}
		s := randomSet(r, universe)
		if r.IntN(3) == 0 {
			s = refKnown(s, universe)
		}
		if r.IntN(8) == 0 {
			universe = append(universe, randomTerm(r, everything, 3))
		}
		r.Shuffle(len(universe), func(i, k int) { universe[i], universe[k] = universe[k], universe[i] })
		got, closed := refute.Closed(s, universe)
		want, w := refClosed(s, universe)
		if !same(got, want) || closed != w {
			t.Fatalf("%s; %s: %s, %v, not %s, %v", texts(s), texts(universe), text(got), closed, text(want), w)
		}
		switch {
		case closed && len(s) > 0:
			found[0]++
		case !closed && isZero(got):
			found[1]++
		case !closed:
			found[2]++
		}
	}
	if found[0] < 300 || found[1] < 100 || found[2] < 800 {
		t.Errorf("%v cases only", found)
	}
}

// P12.1: the result of Closed shares no memory with the arguments, and they do
// not change.
func TestStepSharesNothing(t *testing.T) {
	s := all(t, "xor(a:any, hash(b:any)); pair(mul(a:any, b:any), hash(c:any)); exp(h:any, mul(a:any, b:any)); a:any")
	universe := all(t, "hash(b:any); exp(h:any, mul(a:any, b:any)); mul(a:any, b:any); exp(h:any, b:any)")
	before := show(s) + show(universe)
	for i := range universe {
		got, closed := refute.Closed(s, universe[i:])
		isNew(t, text(got), arrays(got), slices.Concat(arrays(s...), arrays(universe...)))
		if closed {
			t.Errorf("%s: closed", texts(universe[i:]))
		}
		if _, e := refute.Step(s, universe[i]); e != api.OK {
			t.Errorf("%s: %v", text(universe[i]), e)
		}
	}
	if show(s)+show(universe) != before {
		t.Error("an argument has changed")
	}
}

// P12.1: lists at the limits are decided, in a reasonable time.
func TestLargeSteps(t *testing.T) {
	begin := time.Now()
	x := atoms("x", 220)
	var sums, ladders []api.Term
	for i := range 200 {
		sums = append(sums, app("xor", x[i:i+8]...))
		ladders = append(ladders, app("pair", wide(397-2*(i%2)-4*(i%5)), x[i]))
	}
	if is, e := refute.Step(sums, app("xor", x[0], x[8])); !is || e != api.OK {
		t.Errorf("%v, %v", is, e)
	}
	if is, e := refute.Step(sums, x[0]); is || e != api.OK {
		t.Errorf("%v, %v", is, e)
	}
	if u, closed := refute.Closed(sums, append(slices.Clone(x), app("xor", x[3], x[51]))); closed || !applies(u, "xor") {
		t.Errorf("%s, %v", text(u), closed)
	}
	for _, l := range ladders {
		if !theory.Plain(l) {
			t.Fatal("too large")
		}
	}
	if u, closed := refute.Closed(ladders, append(slices.Clone(ladders), x[200:]...)); !closed {
		t.Errorf("%s, %v", text(u), closed)
	}
	if u, closed := refute.Closed(ladders, x); closed || !same(u, x[0]) {
		t.Errorf("%s, %v", text(u), closed)
	}
	if s := time.Since(begin); s > 20*time.Second {
		t.Errorf("%v", s)
	}
}
