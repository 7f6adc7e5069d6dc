package refute_test

import (
	"fmt"
	"math/rand/v2"
	"slices"
	"testing"
	"time"

	"sealring/api"
	"sealring/knowledge"
	"sealring/proof"
	"sealring/refute"
)

// derivables are lists with terms that are derivable from them, and others that
// are not.
var derivables = []struct{ k, in, out string }{
	// the examples of the document
	{"enc(m:any, k:key)", "enc(m:any, k:key)", "m:any; k:key; l:key; hash(m:any)"},
	{"pair(m:any, k:key)", "m:any; k:key; enc(m:any, k:key)", "l:key"},
	{"enc(m:any, k:key); pair(n:nonce, k:key)", "m:any; hash(pair(m:any, n:nonce)); k:key; n:nonce", "l:key; hash(l:key)"},
	{"xor(a:any, b:any); b:any", "a:any", "c:any"},
	{"exp(g:data, x:nonce); y:nonce", "exp(g:data, mul(x:nonce, y:nonce)); exp(g:data, y:nonce)", "x:nonce; mul(x:nonce, y:nonce)"},

	// what is public
	{"", "a:agent; hi:tag; g:data; e#0:nonce; e#12:any; zero(); one(); pair(a:agent, hash(zero())); exp(g:data, e#0:nonce); xor(e#1:any, e#2:any); mul(e#1:any, inv(e#2:any))", "a:any; h:data; e#:any; sk(a:agent); shk(a:agent, b:agent); new(a:agent); pair(a:agent, a:any); xor(a:any, e#1:any); exp(g:data, a:any)"},

	// the rules of free terms
	{"pair(pair(a:any, b:any), pair(c:any, hash(d:any)))", "a:any; b:any; c:any; hash(d:any)", "d:any"},
	{"enc(m:any, pair(k:key, l:key)); l:key; k:key", "m:any", "n:any"},
	{"enc(k:key, k:key)", "", "k:key"},
	{"enc(enc(a:any, b:any), c:any); b:any", "", "a:any; enc(a:any, b:any); c:any"},
	{"aenc(m:any, pk(k:key)); k:key", "m:any; pk(k:key)", "n:any"},
	{"aenc(m:any, pk(k:key)); pk(k:key)", "", "m:any; k:key"},
	{"aenc(m:any, k:key); k:key", "", "m:any"},
	{"aenc(m:any, pk(sk(i:agent))); sk(i:agent)", "m:any", "sk(a:agent)"},
	{"sign(pair(a:any, b:any), sk(a:agent))", "a:any; b:any", "sk(a:agent); sign(a:any, sk(a:agent))"},

	// sums
	{"xor(a:any, b:any); xor(b:any, c:any)", "xor(a:any, c:any)", "a:any; b:any; c:any; xor(a:any, b:any, c:any); xor(a:any, d:any)"},
	{"xor(a:any, b:any); xor(b:any, c:any); xor(a:any, b:any, c:any)", "a:any; b:any; c:any; xor(a:any, c:any)", "d:any; xor(a:any, d:any)"},
	{"xor(a:any, g:data)", "a:any; xor(a:any, b:agent)", "b:any"},
	{"xor(k:key, enc(m:any, k:key))", "", "m:any; k:key; enc(m:any, k:key)"},
	{"xor(a:any, b:any); xor(c:any, hash(a:any)); c:any", "hash(a:any)", "a:any; b:any; pair(a:any, b:any)"},
	{"xor(a:any, b:any, c:any, d:any, e:any, f:any, h:any, i:any); xor(a:any, b:any, c:any, d:any); xor(e:any, f:any)", "xor(h:any, i:any)", "a:any; h:any; xor(a:any, b:any)"},

	// products and powers
	{"exp(g:data, x:nonce); exp(g:data, y:nonce)", "", "exp(g:data, mul(x:nonce, y:nonce)); x:nonce; exp(g:data, inv(x:nonce))"},
	{"exp(h:any, x:nonce); x:nonce", "h:any; exp(h:any, mul(x:nonce, x:nonce))", "exp(h:any, y:nonce)"},
	{"exp(h:any, x:nonce); mul(x:nonce, y:nonce)", "exp(h:any, inv(y:nonce))", "h:any; x:nonce; exp(h:any, y:nonce); inv(x:nonce)"},
	{"mul(x:nonce, y:nonce)", "mul(inv(x:nonce), inv(y:nonce))", "x:nonce; y:nonce; mul(x:nonce, inv(y:nonce))"},
	{"mul(x:nonce, y:nonce); mul(x:nonce, inv(y:nonce))", "mul(x:nonce, x:nonce); mul(y:nonce, y:nonce)", "x:nonce; y:nonce; mul(x:nonce, x:nonce, y:nonce)"},
	{"mul(x:nonce, x:nonce)", "mul(x:nonce, x:nonce, x:nonce, x:nonce)", "x:nonce; mul(x:nonce, x:nonce, x:nonce)"},
	{"mul(x:nonce, x:nonce, y:nonce, z:nonce); z:nonce; exp(h:any, x:nonce); exp(h:any, mul(x:nonce, z:nonce))", "exp(h:any, mul(x:nonce, x:nonce, x:nonce, y:nonce))", "exp(h:any, mul(y:nonce, inv(x:nonce))); h:any; y:nonce; exp(h:any, y:nonce); mul(x:nonce, y:nonce)"},
	{"exp(one(), x:nonce)", "one()", "exp(one(), y:nonce); x:nonce"},
	{"exp(hash(a:any), x:nonce)", "", "hash(a:any); a:any; x:nonce; exp(a:any, x:nonce)"},

	// all rules together
	{"xor(k:key, exp(g:data, mul(x:nonce, y:nonce))); exp(g:data, x:nonce); pair(y:nonce, enc(m:any, hash(k:key)))", "m:any; k:key", "x:nonce"},
	{"xor(k:key, exp(g:data, mul(x:nonce, y:nonce))); exp(g:data, x:nonce); enc(pair(y:nonce, m:any), hash(k:key))", "", "m:any; k:key; y:nonce; exp(g:data, mul(x:nonce, y:nonce))"},
	{"mul(x:nonce, xor(a:any, b:any)); xor(a:any, x:nonce)", "", "b:any; x:nonce; xor(b:any, x:nonce)"},
}

// build is Build of a term that is not derivable; it checks what it returns.
func build(t *testing.T, k []api.Term, x api.Term) api.Refusal {
	t.Helper()
	r, e := refute.Build(k, x)
	if e != api.OK || !refute.Check(k, x, r) || !refCheck(k, x, r) {
		t.Fatalf("%s; %s: %v\n%s", texts(k), text(x), e, lines(r))
	}
	return r
}

// P12.1: Build returns refusals of what is not derivable, and equal ones for
// equal arguments; Decide a derivation or a refusal.
func TestBuild(t *testing.T) {
	for _, c := range derivables {
		k := all(t, c.k)
		for _, x := range all(t, c.out) {
			r := build(t, k, x)
			if again := build(t, k, x); show(again) != show(r) {
				t.Errorf("%s; %s\n%sthen\n%s", c.k, text(x), lines(r), lines(again))
			}
			l, r, e := refute.Decide(k, x)
			if e != api.OK || len(l) != 0 || !refCheck(k, x, r) {
				t.Errorf("%s; %s: %v, %v\n%s", c.k, text(x), e, l, lines(r))
			}
		}
		for _, x := range append(all(t, c.in), k...) {
			if r, e := refute.Build(k, x); e != api.ErrExists || !isEmpty(r) {
				t.Errorf("%s; %s: %v\n%s", c.k, text(x), e, lines(r))
			}
			l, r, e := refute.Decide(k, x)
			if e != api.OK || !isEmpty(r) || !proof.Check(k, l, x) {
				t.Errorf("%s; %s: %v, %v\n%s", c.k, text(x), e, l, lines(r))
			}
		}
	}
}

// P12.1: Known, and the Terms and Bases of a refusal in their order.
func TestOrderOfElements(t *testing.T) {
	for _, c := range []struct{ k, t, known, sums, powers string }{
		{"enc(m:any, k:key)", "m:any", "enc(m:any, k:key)", "k:key; m:any", "k:key; one(); m:any; one()"},
		{"", "a:any", "", "a:any", "a:any; one()"},
		{"hash(a:any); b:any", "a:any", "b:any; hash(a:any)", "a:any", "a:any; one()"},
		{"pair(a:agent, zero()); one()", "sk(a:agent)", "a:agent; one(); zero(); pair(a:agent, zero())", "sk(a:agent)", "sk(a:agent); one()"},
		{"exp(h:any, x:any); exp(h:any, mul(x:any, y:any))", "h:any", "exp(h:any, x:any); exp(h:any, mul(x:any, y:any))", "h:any; x:any; y:any; mul(x:any, y:any)", "h:any; one(); h:any; exp(h:any, x:any); h:any; exp(h:any, mul(x:any, y:any)); x:any; one(); y:any; one(); mul(x:any, y:any); one()"},
		{"exp(h:any, x:any); h:any", "exp(h:any, y:any)", "h:any; exp(h:any, x:any)", "x:any; y:any; exp(h:any, y:any)", "x:any; one(); y:any; one(); exp(h:any, y:any); one(); exp(h:any, y:any); h:any; exp(h:any, y:any); exp(h:any, x:any)"},
		// the term one() is a Base twice
		{"", "exp(one(), y:any)", "one()", "y:any; exp(one(), y:any)", "y:any; one(); exp(one(), y:any); one(); exp(one(), y:any); one()"},
	} {
		r := build(t, all(t, c.k), must(t, c.t))
		var sums, powers []api.Term
		for _, n := range r.Sums {
			sums = append(sums, n.Term)
		}
		for _, n := range r.Powers {
			powers = append(powers, n.Term, n.Base)
		}
		if texts(r.Known) != c.known || texts(sums) != c.sums || texts(powers) != c.powers {
			t.Errorf("%s; %s:\n%s", c.k, c.t, lines(r))
		}
	}
}

// wrongQuestions are those with the errors of knowledge.Universe, and others at
// its limits.
func wrongQuestions(t *testing.T) map[string]stepped {
	a, b := atom("a", api.SortAny), atom("b", api.SortAny)
	cases := map[string]stepped{
		"60 terms":                    {slices.Repeat([]api.Term{a}, 60), b, api.OK},
		"61 terms":                    {slices.Repeat([]api.Term{a}, 61), b, api.ErrTooLarge},
		"61 terms, one the term":      {slices.Repeat([]api.Term{a}, 61), a, api.ErrTooLarge},
		"61 terms that are not valid": {make([]api.Term, 61), api.Term{}, api.ErrTooLarge},
		"200 terms of the universe":   {towers(49, 4), tower(4, "hash", a), api.OK},
		"201 terms of the universe":   {towers(50, 4), a, api.ErrTooLarge},
		"4 exponents":                 {all(t, "mul(a:any, b:any); inv(a:any); inv(b:any)"), must(t, "inv(c:any)"), api.OK},
		"5 exponents":                 {all(t, "mul(a:any, b:any); inv(a:any); inv(b:any); inv(c:any)"), must(t, "inv(d:any)"), api.ErrTooLarge},
		"8 factors":                   {[]api.Term{app("mul", atoms("f", 8)...)}, a, api.OK},
		"9 factors":                   {[]api.Term{app("mul", atoms("f", 8)...)}, app("exp", b, a), api.ErrTooLarge},
		"nothing given":               {nil, a, api.OK},
	}
	for what, c := range badTerms() {
		cases[what] = stepped{[]api.Term{a, b}, c.t, c.want}
		cases[what+", given"] = stepped{[]api.Term{a, c.t}, b, c.want}
		cases[what+", given, and the same"] = stepped{[]api.Term{c.t}, c.t, c.want}
		cases[what+", first"] = stepped{[]api.Term{c.t, {}}, atom("", api.SortAny), c.want}
	}
	return cases
}

// P12.1: the errors of Build, Decide and Blocked are those of
// knowledge.Universe; Check is false where it has one.
func TestErrorsOfQuestions(t *testing.T) {
	for what, c := range wrongQuestions(t) {
		if _, e := knowledge.Universe(c.s, c.t); e != c.want {
			t.Errorf("%s: %v, not %v", what, e, c.want)
		}
		r, e := refute.Build(c.s, c.t)
		if e != c.want || e != api.OK && !isEmpty(r) {
			t.Errorf("%s: Build: %v, not %v", what, e, c.want)
		}
		if refute.Check(c.s, c.t, r) != (e == api.OK) {
			t.Errorf("%s: Check: %v", what, e != api.OK)
		}
		l, r, e := refute.Decide(c.s, c.t)
		if e != c.want || e != api.OK && !isEmpty(r) || len(l) != 0 {
			t.Errorf("%s: Decide: %v, not %v", what, e, c.want)
		}
		if refute.Check(c.s, c.t, r) != (e == api.OK) {
			t.Errorf("%s: Check: %v", what, e != api.OK)
		}
		if l, e := refute.Blocked(c.s, c.t); e != c.want || e != api.OK && len(l) != 0 {
			t.Errorf("%s: Blocked: %v, not %v", what, e, c.want)
		}
	}
}

// P12.1: Build refuses exactly what is not derivable, with what is known, and
// Decide agrees with it, on random terms of all kinds.
func TestBuildOfRandomTerms(t *testing.T) {
	r := rand.New(rand.NewPCG(4, 4))
	var found [4][2]int
	for i := range 4000 {
		q := randomQuestion(r, i%len(kinds))
		is, e := knowledge.Derivable(q.k, q.t)
		l, decided, f := refute.Decide(q.k, q.t)
		if e != api.OK || f != api.OK || isEmpty(decided) == (len(l) == 0) {
			t.Fatalf("%s; %s: %v, %v", texts(q.k), text(q.t), e, f)
		}
		if is {
			found[i%len(kinds)][1]++
			if got, e := refute.Build(q.k, q.t); e != api.ErrExists || !isEmpty(got) || !proof.Check(q.k, l, q.t) || !isEmpty(decided) {
				t.Fatalf("%s; %s: %v\n%s", texts(q.k), text(q.t), e, lines(got))
			}
			continue
		}
		found[i%len(kinds)][0]++
		got := build(t, q.k, q.t)
		universe, _ := knowledge.Universe(q.k, q.t)
		if !sameTerms(got.Known, refKnown(q.k, universe)) || !refCheck(q.k, q.t, decided) || len(l) != 0 {
			t.Fatalf("%s; %s\n%s", texts(q.k), text(q.t), lines(got))
		}
	}
	for i, n := range found {
		if n[0] < 300 || n[1] < 300 {
			t.Errorf("kind %d: %v cases only", i, n)
		}
	}
}

// P12.1: Build refuses exactly what is not derivable where products of many
// factors generate others.
func TestBuildOfProducts(t *testing.T) {
	r := rand.New(rand.NewPCG(5, 5))
	var found [2]int
	for range 4000 {
		k, x := randomPowers(r)
		universe, e := knowledge.Universe(k, x)
		if e != api.OK {
			continue
		}
		if has(refKnown(k, universe), x) {
			found[1]++
			if got, e := refute.Build(k, x); e != api.ErrExists || !isEmpty(got) {
				t.Fatalf("%s; %s: %v\n%s", texts(k), text(x), e, lines(got))
			}
			continue
		}
		found[0]++
		build(t, k, x)
	}
	if found[0] < 500 || found[1] < 300 {
		t.Errorf("%v cases only", found)
	}
}

// P12.1: results share no memory with the arguments, which do not change, nor
// within themselves.
func TestResultsShareNothing(t *testing.T) {
	twice := must(t, "pair(hash(a:any), mul(b:any, c:any))")
	k := []api.Term{app("enc", twice, twice), app("xor", must(t, "c:any"), twice), app("exp", twice, must(t, "mul(b:any, c:any)")), app("hash", app("xor", must(t, "b:any"), twice)), app("hash", twice)}
	for _, x := range []api.Term{twice, must(t, "hash(b:any)"), app("xor", must(t, "d:any"), twice), app("exp", twice, must(t, "b:any")), app("pair", k[1], twice)} {
		given := arrays(append([]api.Term{x}, k...)...)
		before := show(k) + show(x)
		r := build(t, k, x)
		isNew(t, text(x), memory(r), given)
		_, r, _ = refute.Decide(k, x)
		isNew(t, text(x), memory(r), given)
		l, e := refute.Blocked(k, x)
		if e != api.OK || len(l) == 0 {
			t.Errorf("%s: %v", text(x), e)
		}
		isNew(t, text(x), append(address(l), arrays(l...)...), given)
		if show(k)+show(x) != before {
			t.Errorf("%s: an argument has changed", text(x))
		}
	}
	d, _, e := refute.Decide(k, k[0])
	if e != api.OK || len(d) == 0 {
		t.Fatal(e)
	}
	for i := range d {
		isNew(t, "derivation", arrays(d[i].Term), arrays(k...))
	}
}

// P12.1: refusals at the limits are built and checked in a reasonable time.
func TestLargeRefusals(t *testing.T) {
	begin := time.Now()
	for what, q := range largeQuestions() {
		r, e := refute.Build(q.k, q.t)
		if e != api.OK || !refute.Check(q.k, q.t, r) {
			t.Errorf("%s: %v", what, e)
		}
		l, e := refute.Blocked(q.k, q.t)
		if e != api.OK || len(l) > len(r.Sums) {
			t.Errorf("%s: Blocked: %v, %s", what, e, texts(l))
		}
		var universe []api.Term
		for _, n := range r.Sums {
			universe = append(universe, n.Term)
		}
		if u, closed := refute.Closed(r.Known, universe); !closed {
			t.Errorf("%s: Closed: %s", what, text(u))
		}
	}
	if s := time.Since(begin); s > 20*time.Second {
		t.Errorf("%v", s)
	}
}

// largeQuestions are some of which much is missing.
func largeQuestions() map[string]question {
	l := map[string]question{}
	x := atoms("x", 200)
	var chain, apart, dense []api.Term
	for i := range 60 {
		chain = append(chain, app("xor", x[i], x[i+1]))
		apart = append(apart, app("xor", x[i], x[i+70]))
		dense = append(dense, app("xor", x[i], x[i+3], x[i+7], x[i+15], x[i+31], x[i+50], x[i+62], x[i+70]))
	}
	l["a chain of sums"] = question{chain, x[0]}
	l["sums apart"] = question{apart, x[0]}
	l["dense sums"] = question{dense, x[0]}

	var closed, hidden []api.Term
	for i := range 5 {
		big := app("pair", app("pair", x[i], x[10]), app("pair", x[11], app("hash", x[12])))
		inner, outer := big, big
		for range 30 {
			inner, outer = app("sign", inner, big), app("enc", outer, big)
		}
		closed = append(closed, outer)
		hidden = append(hidden, app("hash", app("pair", inner, x[13])))
	}
	l["what is encrypted"] = question{closed, x[11]}
	l["what is hashed"] = question{hidden, x[13]}

	f := atoms("f", 8)
	exponents := append(slices.Clone(f), app("mul", f[0], f[1]), app("mul", f[1], f[2], f[3]), app("mul", f[0], f[2], f[4], f[4]), app("mul", f[5], f[6], f[7]))
	powers := slices.Clone(exponents[8:])
	for i := range 14 {
		b := atom(fmt.Sprintf("b%d", i), api.SortAny)
		powers = append(powers, app("exp", b, exponents[i%11]), app("hash", app("pair", app("exp", b, exponents[(i+3)%11]), app("exp", b, exponents[(i+6)%11]))))
	}
	l["powers"] = question{powers, f[0]}
	return l
}
