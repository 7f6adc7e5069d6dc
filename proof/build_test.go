package proof_test

import (
	"fmt"
	"math/rand/v2"
	"slices"
	"testing"
	"time"

	"sealring/api"
	"sealring/knowledge"
	"sealring/proof"
	"sealring/theory"
)

// derivables are lists with terms that are derivable from them, and others that
// are not.
var derivables = []struct{ k, in, out string }{
	// the examples of the document
	{"enc(m:any, k:key); pair(n:nonce, k:key)", "m:any; hash(pair(m:any, n:nonce)); k:key; n:nonce", "l:key; hash(l:key)"},
	{"xor(a:any, b:any); b:any", "a:any", "c:any"},
	{"exp(g:data, x:nonce); y:nonce", "exp(g:data, mul(x:nonce, y:nonce)); exp(g:data, y:nonce)", "x:nonce; mul(x:nonce, y:nonce)"},

	// what is public
	{"", "a:agent; hi:tag; g:data; e#0:nonce; e#12:any; zero(); one(); pair(a:agent, hash(zero())); exp(g:data, e#0:nonce); xor(e#1:any, e#2:any); mul(e#1:any, inv(e#2:any)); inv(e#1:any)", "a:any; h:data; e#:any; sk(a:agent); shk(a:agent, b:agent); new(a:agent); pair(a:agent, a:any); xor(a:any, e#1:any); exp(g:data, a:any)"},

	// the rules of free terms
	{"a:any; b:any", "pair(a:any, b:any); pair(b:any, b:any); enc(a:any, b:any); aenc(a:any, b:any); aenc(b:any, pk(a:any)); sign(b:any, a:any); hash(a:any); pk(b:any)", "pair(a:any, c:any); pair(c:any, a:any); enc(c:any, a:any); new(a:any, b:any)"},
	{"pair(pair(a:any, b:any), pair(c:any, hash(d:any)))", "a:any; b:any; c:any; hash(d:any)", "d:any"},
	{"enc(m:any, k:key)", "enc(m:any, k:key)", "m:any; k:key"},
	{"enc(m:any, pair(k:key, l:key)); l:key; k:key", "m:any", "n:any"},
	{"enc(a:any, b:any); enc(b:any, c:any); enc(c:any, d:any); d:any", "a:any; b:any; c:any; hash(pair(a:any, b:any))", "e:any"},
	{"enc(k:key, k:key)", "", "k:key"},
	{"enc(m:any, hash(pair(k:key, a:agent))); k:key", "m:any", "n:any"},
	{"aenc(m:any, pk(k:key)); k:key", "m:any; pk(k:key)", "n:any"},
	{"aenc(m:any, pk(k:key)); pk(k:key)", "", "m:any; k:key"},
	{"aenc(m:any, k:key); k:key", "", "m:any"},
	{"aenc(m:any, pk(sk(i:agent))); sk(i:agent)", "m:any", "sk(a:agent)"},
	{"aenc(m:any, pk(hash(k:key))); k:key", "m:any", ""},
	{"aenc(m:any, pk(e#0:key))", "m:any", ""},
	{"sign(pair(a:any, b:any), sk(a:agent))", "a:any; b:any", "sk(a:agent); sign(a:any, sk(a:agent))"},
	{"pair:any; enc:key; aenc:any; sign:any; xor:any; exp:any; mul:nonce; inv:nonce; pk:key", "pair(pair:any, enc:key); exp(exp:any, mul:nonce)", "hash:any; a:any"},

	// sums
	{"xor(a:any, b:any); xor(b:any, c:any)", "xor(a:any, c:any)", "a:any; b:any; xor(a:any, b:any, c:any)"},
	{"xor(a:any, b:any); xor(b:any, c:any); xor(a:any, b:any, c:any)", "a:any; b:any; c:any; xor(a:any, c:any)", "d:any; xor(a:any, d:any)"},
	{"xor(a:any, b:any, c:any); b:any", "xor(a:any, c:any)", "a:any; c:any"},
	{"xor(a:any, g:data)", "a:any; xor(a:any, b:agent)", "b:any"},
	{"xor(a:any, hash(b:any)); b:any", "a:any", ""},
	{"xor(a:any, pair(b:any, c:any)); xor(b:any, c:any); a:any", "b:any; c:any", ""},
	{"xor(k:key, enc(m:any, k:key)); enc(m:any, k:key)", "m:any; k:key", ""},
	{"hash(xor(a:any, b:any)); a:any; b:any", "xor(a:any, b:any)", ""},
	{"xor(a:any, b:any); xor(b:any, c:any); xor(c:any, d:any); xor(d:any, e:any); e:any", "a:any; b:any; c:any; d:any; xor(a:any, c:any, e:any)", "f:any"},
	{"xor(a:any, b:any, c:any, d:any, e:any, f:any, h:any, i:any); xor(a:any, b:any, c:any, d:any); xor(e:any, f:any)", "xor(h:any, i:any); xor(e:any, f:any, h:any, i:any)", "a:any; h:any; xor(a:any, b:any)"},

	// products and powers
	{"exp(g:data, x:nonce); exp(g:data, y:nonce); x:nonce", "exp(g:data, mul(x:nonce, y:nonce)); exp(g:data, inv(x:nonce)); exp(g:data, mul(x:nonce, x:nonce))", "y:nonce; exp(h:data, x:nonce)"},
	{"exp(h:any, x:nonce); x:nonce", "h:any; exp(h:any, mul(x:nonce, x:nonce))", "exp(h:any, y:nonce)"},
	{"exp(h:any, mul(x:nonce, inv(y:nonce))); y:nonce", "exp(h:any, x:nonce)", "h:any"},
	{"exp(h:any, x:nonce); mul(x:nonce, y:nonce)", "exp(h:any, inv(y:nonce))", "h:any; x:nonce; exp(h:any, y:nonce)"},
	{"exp(hash(a:any), x:nonce); x:nonce", "hash(a:any)", "a:any"},
	{"mul(x:nonce, y:nonce); y:nonce", "x:nonce; inv(x:nonce); mul(x:nonce, x:nonce, inv(y:nonce))", "z:nonce"},
	{"mul(x:nonce, y:nonce); mul(x:nonce, inv(y:nonce))", "mul(x:nonce, x:nonce); mul(y:nonce, y:nonce)", "x:nonce; y:nonce; mul(x:nonce, x:nonce, y:nonce)"},
	{"mul(x:nonce, x:nonce); mul(x:nonce, x:nonce, x:nonce)", "x:nonce; inv(x:nonce)", "y:nonce"},
	{"inv(hash(a:any))", "hash(a:any)", "a:any"},
	{"mul(x:nonce, pair(a:any, b:any)); x:nonce", "a:any; b:any", ""},
	{"mul(x:nonce, hash(a:any)); a:any", "x:nonce", ""},
	{"enc(m:any, exp(g:data, mul(x:nonce, y:nonce))); exp(g:data, x:nonce); y:nonce", "m:any", "x:nonce"},
	{"hash(exp(g:data, mul(x:nonce, y:nonce))); exp(g:data, x:nonce); hash(exp(h:any, y:nonce)); y:nonce; exp(h:any, x:nonce)", "exp(g:data, mul(x:nonce, y:nonce)); exp(g:data, y:nonce)", "h:any; exp(h:any, y:nonce)"},

	// all rules together
	{"xor(k:key, exp(g:data, mul(x:nonce, y:nonce))); exp(g:data, x:nonce); pair(y:nonce, enc(m:any, hash(k:key)))", "m:any; k:key", "x:nonce"},
	{"exp(xor(a:any, b:any), x:nonce); enc(x:nonce, a:any); a:any", "b:any; xor(a:any, b:any)", "c:any"},
	{"mul(x:nonce, xor(a:any, b:any)); xor(a:any, x:nonce); a:any", "b:any; x:nonce", "c:any"},
}

// build is Build of a term that is derivable; it checks what it returns.
func build(t *testing.T, k []api.Term, x api.Term) []api.Deduction {
	t.Helper()
	l, e := proof.Build(k, x)
	if e != api.OK || len(l) == 0 || !same(last(l), x) {
		t.Fatalf("%s; %s: %v\n%s", texts(k), text(x), e, lines(l))
	}
	if !proof.Check(k, l, x) || !proof.Local(k, l) || !refLocal(k, l) {
		t.Fatalf("%s; %s: not right and local\n%s", texts(k), text(x), lines(l))
	}
	return l
}

// P11.1: Build returns derivations of what is derivable.
func TestBuild(t *testing.T) {
	for _, c := range derivables {
		k := all(t, c.k)
		for _, x := range append(all(t, c.in), k...) {
			l := build(t, k, x)
			if has(k, x) && len(l) != 1 {
				t.Errorf("%s; %s\n%s", c.k, text(x), lines(l))
			}
			if again := build(t, k, x); !sameSteps(l, again) {
				t.Errorf("%s; %s\n%sthen\n%s", c.k, text(x), lines(l), lines(again))
			}
		}
		for _, x := range all(t, c.out) {
			if l, e := proof.Build(k, x); e != api.ErrNotFound || len(l) != 0 {
				t.Errorf("%s; %s: %v\n%s", c.k, text(x), e, lines(l))
			}
		}
	}
}

// P11.1: the errors of Build are those of knowledge.Derivable.
func TestBuildErrors(t *testing.T) {
	a, b := atom("a", api.SortAny), atom("b", api.SortAny)
	type asked struct {
		k    []api.Term
		t    api.Term
		want api.Errno
	}
	cases := map[string]asked{
		"60 terms":                    {slices.Repeat([]api.Term{a}, 60), a, api.OK},
		"61 terms":                    {slices.Repeat([]api.Term{a}, 61), a, api.ErrTooLarge},
		"61 terms that are not valid": {make([]api.Term, 61), api.Term{}, api.ErrTooLarge},
		"200 terms of the universe":   {towers(50, 4), towers(1, 4)[0], api.OK},
		"201 terms of the universe":   {towers(50, 4), a, api.ErrTooLarge},
		"4 exponents":                 {all(t, "mul(a:any, b:any); inv(a:any); inv(b:any)"), must(t, "inv(c:any)"), api.ErrNotFound},
		"5 exponents":                 {all(t, "mul(a:any, b:any); inv(a:any); inv(b:any); inv(c:any)"), must(t, "inv(d:any)"), api.ErrTooLarge},
		"8 factors":                   {[]api.Term{app("mul", atoms("f", 8)...)}, a, api.ErrNotFound},
		"9 factors":                   {[]api.Term{app("mul", atoms("f", 8)...)}, app("exp", b, a), api.ErrTooLarge},
		"not derivable":               {[]api.Term{a}, b, api.ErrNotFound},
		"nothing given":               {nil, a, api.ErrNotFound},
	}
	for what, c := range badTerms() {
		cases[what] = asked{[]api.Term{a, b}, c.t, c.want}
		cases[what+", given"] = asked{[]api.Term{a, c.t}, b, c.want}
		cases[what+", first"] = asked{[]api.Term{c.t, {}}, atom("", api.SortAny), c.want}
	}
	for what, c := range cases {
		l, e := proof.Build(c.k, c.t)
		if e != c.want || (e != api.OK) != (len(l) == 0) {
			t.Errorf("%s: %v, %d steps, not %v", what, e, len(l), c.want)
		}
		if is, f := knowledge.Derivable(c.k, c.t); f != e && !(f == api.OK && !is && e == api.ErrNotFound) {
			t.Errorf("%s: %v, but %v, %v", what, e, is, f)
		}
	}
}

// towers returns n towers of different atoms.
func towers(n, depth int) []api.Term {
	var l []api.Term
	for _, x := range atoms("t", n) {
		l = append(l, tower(depth, "hash", x))
	}
	return l
}

// P11.1: Build finds a derivation exactly of what is derivable, on random terms
// of all kinds; it has at most one step for each term of the universe, all of
// which are needed.
func TestBuildOfRandomTerms(t *testing.T) {
	r := rand.New(rand.NewPCG(2, 2))
	var found [4][2]int
	for i := range 12000 {
		kind := kinds[i%len(kinds)]
		k := randomList(r, kind.symbols, 8, kind.depth)
		x := randomGoal(r, kind.symbols, k)
		is, e := knowledge.Derivable(k, x)
		l, f := proof.Build(k, x)
		switch {
		case e != api.OK && f == e && len(l) == 0:
			continue
		case e == api.OK && !is && f == api.ErrNotFound && len(l) == 0:
			found[i%len(kinds)][0]++
			continue
		case e != api.OK || f != api.OK || !is:
			t.Fatalf("%s; %s: %v, %v, but %v", texts(k), text(x), is, e, f)
		}
		l = build(t, k, x)
		if !sameSteps(l, refTrim(l)) {
			t.Fatalf("%s; %s: steps are not needed\n%s", texts(k), text(x), lines(l))
		}
		for j := range l {
			if slices.ContainsFunc(l[:j], func(d api.Deduction) bool { return same(d.Term, l[j].Term) }) || slices.Contains(l[j].Coeffs, 0) {
				t.Fatalf("%s; %s: a term twice, or not used\n%s", texts(k), text(x), lines(l))
			}
		}
		if len(l) > 1 {
			found[i%len(kinds)][1]++
		}
	}
	for i, n := range found {
		if n[0] < 300 || n[1] < 300 {
			t.Errorf("kind %d: %v cases only", i, n)
		}
	}
}

// randomProduct returns a plain product of up to 8 powers of atoms, or one of
// them alone.
func randomProduct(r *rand.Rand, factors []api.Term) api.Term {
	for {
		l := []api.Term{app("one"), app("one")}
		for range 2 + r.IntN(5) {
			f := pick(r, factors)
			if r.IntN(2) == 0 {
				f = app("inv", f)
			}
			l[r.IntN(2)] = app("mul", l[r.IntN(2)], f)
		}
		t, e := theory.Normal(app("mul", l...))
		if e == api.OK && applies(t, "mul", "inv") {
			return t
		}
	}
}

// P11.1: Build agrees with layer 10 where products of many factors generate
// others.
func TestBuildOfProducts(t *testing.T) {
	r := rand.New(rand.NewPCG(3, 3))
	found := map[bool]int{}
	for range 6000 {
		factors := atoms("x", 2+r.IntN(7))
		var k []api.Term
		for range 2 + r.IntN(2) {
			k = append(k, randomProduct(r, factors))
		}
		for range r.IntN(3) {
			k = append(k, pick(r, factors))
		}
		x := randomProduct(r, factors)
		if r.IntN(2) == 0 {
			k = append(k, app("exp", atom("b", 0), pick(r, append(slices.Clone(k), factors...))))
			x = pick(r, []api.Term{app("exp", atom("b", 0), pick(r, append(slices.Clone(k[:2]), x))), atom("b", 0), pick(r, factors)})
		}
		if !theory.Plain(x) || slices.ContainsFunc(k, func(t api.Term) bool { return !theory.Plain(t) }) {
			continue
		}
		is, e := knowledge.Derivable(k, x)
		_, f := proof.Build(k, x)
		if e != api.OK && f == e {
			continue
		}
		if e != api.OK || is != (f == api.OK) || !is && f != api.ErrNotFound {
			t.Fatalf("%s; %s: %v, %v, but %v", texts(k), text(x), is, e, f)
		}
		if is {
			build(t, k, x)
		}
		found[is && !has(k, x)]++
	}
	if found[true] < 500 || found[false] < 500 {
		t.Errorf("%v cases only", found)
	}
}

// P11.1: the result shares no memory with the arguments, which do not change,
// nor within itself.
func TestBuildSharesNothing(t *testing.T) {
	twice := must(t, "pair(hash(a:any), mul(b:any, c:any))")
	k := []api.Term{app("enc", twice, twice), twice, app("xor", must(t, "c:any"), twice), app("exp", twice, must(t, "mul(b:any, c:any)")), twice}
	before := show(k)
	for _, x := range append(all(t, "c:any; b:any; hash(b:any); xor(b:any, c:any)"), twice, k[0], app("hash", k[0]), app("pair", twice, twice), app("exp", twice, must(t, "b:any"))) {
		l, e := proof.Build(k, x)
		if e != api.OK {
			t.Errorf("%s: %v", text(x), e)
		}
		isNew(t, text(x), l, arrays(append([]api.Term{x}, k...)...)...)
	}
	if show(k) != before {
		t.Error("an argument has changed")
	}
}

// chained returns n terms of which each opens the next one, with the first key,
// and what is opened last: a sum with a key shows what is encrypted under it.
func chained(n int, name func(i int) api.Term) ([]api.Term, api.Term) {
	l := []api.Term{name(0)}
	for i := range n {
		l = append(l, app("xor", name(i), app("enc", name(i+1), name(i))))
	}
	slices.Reverse(l)
	return l, name(n)
}

// P11.1: derivations at the limits are found, in a reasonable time.
func TestLargeBuild(t *testing.T) {
	begin := time.Now()
	for _, name := range []func(i int) api.Term{
		func(i int) api.Term { return atom(fmt.Sprintf("x%d", 100+i), api.SortNonce) },
		func(i int) api.Term { return atom(fmt.Sprintf("x%d", 900-i), api.SortNonce) },
	} {
		k, x := chained(59, name)
		if l := build(t, k, x); proof.Steps(l) != 118 || len(proof.Uses(l)) != 60 {
			t.Errorf("%d steps", len(l))
		}
		if l, e := proof.Build(k[:59], x); e != api.ErrNotFound || len(l) != 0 {
			t.Errorf("without the first key: %v", e)
		}
	}
	// A key is the power of one base, and opens the power of the next one.
	f, b := atoms("f", 8), atoms("b", 25)
	product := app("mul", f...)
	k := []api.Term{product, app("exp", b[0], f[0])}
	for i := range 24 {
		k = append(k, app("enc", app("exp", b[i+1], f[0]), app("exp", b[i], app("mul", f[1:]...))))
	}
	k = append(k, app("mul", f[0], f[0]))
	if l := build(t, k, app("exp", b[24], f[0])); proof.Steps(l) != 48 {
		t.Errorf("%d steps of powers", proof.Steps(l))
	}
	// 60 dense sums of 66 terms.
	r := rand.New(rand.NewPCG(4, 4))
	summands := atoms("s", 66)
	var sums []api.Term
	for len(sums) < 60 {
		x, e := theory.Normal(app("xor", pick(r, summands), pick(r, summands), pick(r, summands), pick(r, summands), pick(r, summands), pick(r, summands), pick(r, summands), pick(r, summands)))
		if e == api.OK && applies(x, "xor") {
			sums = append(sums, x)
		}
	}
	for _, x := range summands {
		is, e := knowledge.Derivable(sums, x)
		if l, f := proof.Build(sums, x); e != api.OK || is != (f == api.OK) || is && !proof.Local(sums, l) {
			t.Errorf("%s: %v, %v", text(x), e, f)
		}
	}
	if s := time.Since(begin); s > 20*time.Second {
		t.Errorf("%v", s)
	}
}
