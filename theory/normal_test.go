package theory_test

import (
	"math/rand/v2"
	"slices"
	"testing"

	"sealring/api"
	"sealring/term"
	"sealring/theory"
)

// A reduction is a term with its normal form.
type reduction struct{ t, want string }

// checkReductions compares normal forms, and whether the terms are equal to
// them.
func checkReductions(t *testing.T, l []reduction) {
	t.Helper()
	for _, c := range l {
		x, want := must(t, c.t), must(t, c.want)
		if n, e := theory.Normal(x); e != api.OK || !same(n, want) {
			t.Errorf("%s: %s, %v", c.t, text(n), e)
		}
		if !theory.Equal(x, want) || !theory.Equal(want, x) {
			t.Errorf("%s is not equal to %s", c.t, c.want)
		}
	}
}

// P9.1: terms in which there is nothing to do.
func TestNormalOfNormalForms(t *testing.T) {
	for _, s := range []string{
		"a:any", "e#1:nonce", "?x", "?x:key", "zero()", "one()", "sk(a:agent)", "shk(a:agent, ?x:agent)",
		"new(a:any, pair(b:any, ?x))", "pair(a:any, a:any)", "enc(dec(a:any, k:key), k:key)", "pk(pk(a:any))",
		"exp(a:any, zero())", "inv(zero())", "hash(pair(zero(), one()))", "aenc(a:any, k:key)", "sign(read(a:any), k:key)",
	} {
		checkReductions(t, []reduction{{s, s}})
	}
}

// P9.1: destructors whose rules fit, and those whose rules do not.
func TestNormalOfDestructors(t *testing.T) {
	checkReductions(t, []reduction{
		// the examples of the document
		{"dec(enc(a:any, k:key), k:key)", "a:any"},
		{"dec(enc(a:any, k:key), n:key)", "dec(enc(a:any, k:key), n:key)"},

		{"fst(pair(a:any, b:any))", "a:any"},
		{"snd(pair(a:any, b:any))", "b:any"},
		{"fst(a:any)", "fst(a:any)"},
		{"snd(enc(a:any, b:any))", "snd(enc(a:any, b:any))"},
		{"fst(?x)", "fst(?x)"},
		{"fst(pair:any)", "fst(pair:any)"},
		{"fst(?pair)", "fst(?pair)"},
		{"fst(snd(pair(a:any, pair(b:any, c:any))))", "b:any"},
		{"fst(fst(pair(a:any, b:any)))", "fst(a:any)"},
		{"dec(enc(a:any, ?x), ?x)", "a:any"},
		{"dec(enc(a:any, ?x), ?y)", "dec(enc(a:any, ?x), ?y)"},
		{"dec(enc(a:any, k:key), k:nonce)", "dec(enc(a:any, k:key), k:nonce)"},
		{"dec(enc(a:any, k:key), ?k:key)", "dec(enc(a:any, k:key), ?k:key)"},
		{"dec(aenc(a:any, k:key), k:key)", "dec(aenc(a:any, k:key), k:key)"},
		{"dec(enc(a:any, pk(k:key)), k:key)", "dec(enc(a:any, pk(k:key)), k:key)"},
		{"dec(enc(a:any, snd(pair(b:any, k:key))), fst(pair(k:key, b:any)))", "a:any"},
		{"dec(fst(pair(enc(a:any, k:key), b:any)), k:key)", "a:any"},
		{"adec(aenc(a:any, pk(sk(b:agent))), sk(b:agent))", "a:any"},
		{"adec(aenc(a:any, pk(k:key)), k:key)", "a:any"},
		{"adec(aenc(a:any, pk(k:key)), pk(k:key))", "adec(aenc(a:any, pk(k:key)), pk(k:key))"},
		{"adec(aenc(a:any, pk(k:key)), l:key)", "adec(aenc(a:any, pk(k:key)), l:key)"},
		{"adec(aenc(a:any, k:key), k:key)", "adec(aenc(a:any, k:key), k:key)"},
		{"adec(aenc(a:any, hash(k:key)), k:key)", "adec(aenc(a:any, hash(k:key)), k:key)"},
		{"adec(aenc(a:any, ?pk), ?pk)", "adec(aenc(a:any, ?pk), ?pk)"},
		{"adec(enc(a:any, pk(k:key)), k:key)", "adec(enc(a:any, pk(k:key)), k:key)"},
		{"open(sign(a:any, k:key), pk(k:key))", "a:any"},
		{"open(sign(a:any, k:key), k:key)", "open(sign(a:any, k:key), k:key)"},
		{"open(sign(a:any, k:key), pk(l:key))", "open(sign(a:any, k:key), pk(l:key))"},
		{"open(sign(a:any, pk(k:key)), k:key)", "open(sign(a:any, pk(k:key)), k:key)"},
		{"open(sign(a:any, k:key), hash(k:key))", "open(sign(a:any, k:key), hash(k:key))"},
		{"open(enc(a:any, k:key), pk(k:key))", "open(enc(a:any, k:key), pk(k:key))"},
		{"read(sign(a:any, ?k))", "a:any"},
		{"read(enc(a:any, k:key))", "read(enc(a:any, k:key))"},
		{"read(open(sign(sign(a:any, k:key), k:key), pk(k:key)))", "a:any"},
		{"read(hash(sign(a:any, k:key)))", "read(hash(sign(a:any, k:key)))"},

		// keys that are equal in the theory only
		{"dec(enc(a:any, xor(k:key, l:key)), xor(l:key, k:key))", "a:any"},
		{"dec(enc(a:any, exp(exp(g:data, x:nonce), y:nonce)), exp(exp(g:data, y:nonce), x:nonce))", "a:any"},
		{"adec(aenc(a:any, xor(b:any, pk(k:key), b:any)), k:key)", "a:any"},
		{"open(xor(sign(a:any, k:key), b:any, b:any), pk(mul(k:key, one())))", "a:any"},
		{"fst(exp(pair(a:any, b:any), mul(x:nonce, inv(x:nonce))))", "a:any"},
	})
}

// P9.1: sums.
func TestNormalOfSums(t *testing.T) {
	checkReductions(t, []reduction{
		// the example of the document
		{"xor(a:any, xor(b:any, a:any))", "b:any"},

		{"xor(a:any, b:any)", "xor(a:any, b:any)"},
		{"xor(b:any, a:any)", "xor(a:any, b:any)"},
		{"xor(a:any, a:any)", "zero()"},
		{"xor(zero(), zero())", "zero()"},
		{"xor(zero(), a:any)", "a:any"},
		{"xor(a:any, a:any, a:any)", "a:any"},
		{"xor(a:any, a:nonce)", "xor(a:any, a:nonce)"},
		{"xor(?a, a:any)", "xor(?a, a:any)"},
		{"xor(xor(xor(a:any, b:any), c:any), d:any)", "xor(a:any, b:any, c:any, d:any)"},
		{"xor(xor(a:any, b:any), xor(b:any, c:any))", "xor(a:any, c:any)"},
		{"xor(pair(a:any, b:any), c:any)", "xor(c:any, pair(a:any, b:any))"},
		{"xor(pair(a:any, fst(pair(b:any, c:any))), pair(a:any, b:any))", "zero()"},
		{"xor(hash(xor(a:any, b:any)), hash(xor(b:any, a:any)), c:any)", "c:any"},
		{"hash(xor(b:any, a:any, b:any))", "hash(a:any)"},
		{"fst(xor(pair(a:any, b:any), c:any, c:any))", "a:any"},
		{"xor(exp(g:data, one()), g:data)", "zero()"},
		{"xor(one(), inv(one()))", "zero()"},
		{"xor(xor(a:any, b:any, c:any, d:any), xor(e:any, f:any, g:any, h:any))", "xor(a:any, b:any, c:any, d:any, e:any, f:any, g:any, h:any)"},
		{"xor(xor(a:any, b:any, c:any, d:any, e:any), xor(e:any, f:any, g:any, h:any, i:any))", "xor(a:any, b:any, c:any, d:any, f:any, g:any, h:any, i:any)"},
	})
}

// P9.1: exponents and powers.
func TestNormalOfExponents(t *testing.T) {
	checkReductions(t, []reduction{
		// the examples of the document
		{"exp(exp(g:data, y:nonce), x:nonce)", "exp(g:data, mul(x:nonce, y:nonce))"},
		{"exp(exp(exp(g:data, y:nonce), x:nonce), inv(x:nonce))", "exp(g:data, y:nonce)"},
		{"exp(exp(g:data, mul(x:nonce, y:nonce)), inv(x:nonce))", "exp(g:data, y:nonce)"},

		{"mul(a:any, one())", "a:any"},
		{"mul(one(), one())", "one()"},
		{"inv(one())", "one()"},
		{"inv(inv(a:any))", "a:any"},
		{"mul(b:any, a:any)", "mul(a:any, b:any)"},
		{"mul(a:any, a:any)", "mul(a:any, a:any)"},
		{"mul(mul(a:any, b:any), mul(c:any, a:any))", "mul(a:any, a:any, b:any, c:any)"},
		{"mul(x:nonce, inv(mul(x:nonce, y:nonce)))", "inv(y:nonce)"},
		{"inv(mul(b:any, inv(a:any)))", "mul(a:any, inv(b:any))"},
		{"mul(inv(b:any), inv(a:any))", "mul(inv(a:any), inv(b:any))"},
		{"mul(zero(), xor(a:any, a:any))", "mul(zero(), zero())"},
		{"mul(hash(mul(b:any, a:any)), inv(hash(mul(a:any, b:any))))", "one()"},
		{"mul(exp(g:data, one()), inv(g:data))", "one()"},
		{"exp(g:data, one())", "g:data"},
		{"exp(one(), a:any)", "exp(one(), a:any)"},
		{"exp(mul(b:any, a:any), a:any)", "exp(mul(a:any, b:any), a:any)"},
		{"exp(g:data, mul(a:any, inv(a:any)))", "g:data"},
		{"exp(exp(g:data, inv(a:any)), inv(a:any))", "exp(g:data, mul(inv(a:any), inv(a:any)))"},
		{"exp(exp(g:data, a:any), inv(a:any))", "g:data"},
		{"exp(exp(exp(exp(g:data, d:any), c:any), b:any), a:any)", "exp(g:data, mul(a:any, b:any, c:any, d:any))"},
		{"exp(exp(exp(g:data, a:any), inv(a:any)), b:any)", "exp(g:data, b:any)"},
		{"exp(fst(pair(exp(g:data, a:any), b:any)), c:any)", "exp(g:data, mul(a:any, c:any))"},
		{"exp(fst(exp(g:data, a:any)), b:any)", "exp(fst(exp(g:data, a:any)), b:any)"},
		{"exp(hash(exp(g:data, a:any)), a:any)", "exp(hash(exp(g:data, a:any)), a:any)"},
		{"exp(g:data, exp(g:data, exp(g:data, one())))", "exp(g:data, exp(g:data, g:data))"},
		{"exp(exp(g:data, exp(g:data, a:any)), inv(exp(exp(g:data, b:any), mul(a:any, inv(b:any)))))", "g:data"},
		{"exp(zero(), xor(a:any, a:any))", "exp(zero(), zero())"},
		{"exp(?x, ?x)", "exp(?x, ?x)"},
		{"exp(?exp, ?x)", "exp(?exp, ?x)"},
	})
}

// P9.1: results that would have too many operands, wherever they stand.
func TestTooManyOperands(t *testing.T) {
	a, b := app("mul", atoms("a", 8)...), app("mul", atoms("b", 4)...)
	s, u := app("xor", atoms("a", 8)...), app("xor", atoms("b", 2)...)
	g, c := atom("g", api.SortData), atom("c", api.SortAny)
	for what, x := range map[string]api.Term{
		"product of 9":            app("mul", a, c),
		"product of 12":           app("mul", a, b),
		"9 of a factor":           app("mul", app("mul", slices.Repeat([]api.Term{c}, 8)...), c),
		"sum of 9":                app("xor", s, c),
		"sum of 10":               app("xor", s, u),
		"power of 9":              app("exp", app("exp", g, a), c),
		"power of 9, other order": app("exp", app("exp", g, c), app("inv", a)),
		"exponent of 9":           app("exp", g, app("mul", a, c)),
		"at last 8":               app("mul", app("mul", a, c), app("inv", c)),
		"at last 8 summands":      app("xor", app("xor", s, c), c),
		"what is left out":        app("fst", app("pair", c, app("xor", s, c))),
		"what cancels":            app("xor", app("mul", a, b), app("mul", a, b)),
		"what has no exponent":    app("exp", app("exp", app("exp", g, a), c), app("inv", c)),
	} {
		if n, e := theory.Normal(x); e != api.ErrTooLarge || !isZero(n) {
			t.Errorf("%s: %s, %v", what, text(n), e)
		}
		if theory.Plain(x) || theory.Equal(x, x) || theory.Equal(c, x) || theory.Equal(x, c) {
			t.Errorf("%s: plain or equal", what)
		}
	}
	for what, x := range map[string]api.Term{
		"product of 8":    app("mul", a, app("mul", c, app("inv", c))),
		"product of 7":    app("mul", a, app("inv", atoms("a", 8)[3])),
		"power of 8":      app("exp", app("exp", g, b), app("inv", b)),
		"sum of 8":        app("xor", s, u, u),
		"sum that is all": app("xor", s, u, s),
	} {
		if n, e := theory.Normal(x); e != api.OK || isZero(n) {
			t.Errorf("%s: %v", what, e)
		}
	}
}

// P9.1: what is too large on the way is an error only where the document says
// so: for sums, exponents and powers, and at the end.
func TestLargeOnTheWay(t *testing.T) {
	a, g := atom("a", api.SortAny), atom("g", api.SortData)
	// 382 nodes, and 641 in normal form
	var rows []api.Term
	for range 5 {
		rows = append(rows, box(slices.Repeat([]api.Term{growing("f")}, 7)...))
	}
	large := box(append(rows, growing("f"), growing("f"))...)
	// 178 nodes, and 297 in normal form
	half := box(append(slices.Repeat([]api.Term{box(slices.Repeat([]api.Term{growing("f")}, 5)...)}, 3), growing("f"), growing("f"))...)
	cases := map[string]struct {
		t    api.Term
		want api.Errno
	}{
		"at the end":         {large, api.ErrTooLarge},
		"left out by fst":    {app("fst", app("pair", a, large)), api.OK},
		"left out by snd":    {app("snd", app("pair", large, a)), api.OK},
		"left out by read":   {app("read", app("sign", a, large)), api.OK},
		"not left out":       {app("snd", app("pair", a, large)), api.ErrTooLarge},
		"opened by dec":      {app("dec", app("enc", a, half), half), api.OK},
		"opened by adec":     {app("adec", app("aenc", a, app("pk", half)), half), api.OK},
		"opened by open":     {app("open", app("sign", a, half), app("pk", half)), api.OK},
		"not opened":         {app("dec", app("enc", a, half), a), api.OK},
		"not opened, large":  {app("dec", app("enc", a, half), app("hash", half)), api.ErrTooLarge},
		"summand":            {app("fst", app("pair", a, app("xor", a, large))), api.ErrTooLarge},
		"sum":                {app("fst", app("pair", a, app("xor", half, app("hash", half)))), api.ErrTooLarge},
		"summands cancel":    {app("xor", half, half), api.OK},
		"factor":             {app("fst", app("pair", a, app("inv", large))), api.ErrTooLarge},
		"factors together":   {app("mul", half, app("inv", half)), api.ErrTooLarge},
		"exponent":           {app("fst", app("pair", a, app("exp", g, large))), api.ErrTooLarge},
		"exponents together": {app("exp", app("exp", g, half), app("hash", half)), api.ErrTooLarge},
		"exponents cancel":   {app("exp", app("exp", g, half), app("inv", half)), api.OK},
		"base left out":      {app("fst", app("pair", a, app("exp", large, a))), api.OK},
		"base":               {app("exp", large, a), api.ErrTooLarge},
		"base alone":         {app("exp", large, app("one")), api.ErrTooLarge},
	}
	for what, c := range cases {
		if e := theory.Valid(c.t); e != api.OK {
			t.Fatalf("%s: %v, %d nodes", what, e, term.Size(c.t))
		}
		n, e := theory.Normal(c.t)
		want, f := refNormal(c.t)
		if e != c.want || f != c.want || !same(n, want) {
			t.Errorf("%s: %v, %v by the definition, %s", what, e, f, text(n))
		}
	}
}

// P9.1: what is too deep on the way.
func TestDeepOnTheWay(t *testing.T) {
	a, g, y := atom("a", api.SortAny), atom("g", api.SortData), atom("y", api.SortNonce)
	power := app("exp", g, y)
	// 40 levels, and 41 in normal form
	deep := app("exp", power, tower(39, "hash", a))
	for what, c := range map[string]struct {
		t    api.Term
		want api.Errno
	}{
		"power":           {deep, api.ErrTooLarge},
		"one level less":  {app("exp", power, tower(38, "hash", a)), api.OK},
		"not a power":     {app("exp", g, tower(39, "hash", a)), api.OK},
		"more than once":  {app("exp", power, app("exp", power, tower(37, "hash", a))), api.ErrTooLarge},
		"twice":           {app("exp", power, app("exp", power, tower(36, "hash", a))), api.OK},
		"left out":        {app("fst", app("pair", a, app("exp", power, tower(37, "hash", a)))), api.OK},
		"left out, deep":  {app("fst", app("pair", a, app("exp", power, app("exp", power, tower(36, "hash", a))))), api.OK},
		"shallow at last": {app("exp", app("exp", power, tower(38, "hash", a)), app("inv", tower(37, "hash", a))), api.OK},
		"40 destructors":  {tower(40, "fst", a), api.OK},
		"40 inverses":     {tower(40, "inv", a), api.OK},
	} {
		if e := theory.Valid(c.t); e != api.OK {
			t.Fatalf("%s: %v, %d levels", what, e, term.Depth(c.t))
		}
		n, e := theory.Normal(c.t)
		want, f := refNormal(c.t)
		if e != c.want || f != c.want || !same(n, want) {
			t.Errorf("%s: %v, %v by the definition, %s", what, e, f, text(n))
		}
	}
	if n := normalOf(t, tower(40, "inv", a)); text(n) != "inv(a:any)" {
		t.Errorf("40 inverses: %s", text(n))
	}
}

// P9.1: Normal is what the document says, for all kinds of terms.
func TestNormalByDefinition(t *testing.T) {
	r := rand.New(rand.NewPCG(3, 4))
	changed, wrong := 0, 0
	for _, symbols := range [][]string{destructing, adding, multiplying, everything, slices.Concat(adding, multiplying)} {
		for range 5000 {
			x := randomTerm(r, symbols, 3+r.IntN(5))
			before := show(x)
			n, e := theory.Normal(x)
			want, f := refNormal(x)
			if e != f || !same(n, want) {
				t.Fatalf("%s: %s, %v, not %s, %v", text(x), text(n), e, text(want), f)
			}
			if show(x) != before {
				t.Fatalf("%s has changed", before)
			}
			isNew(t, "Normal", n, x)
			switch {
			case e != api.OK:
				wrong++
			case !same(n, x):
				changed++
			}
		}
	}
	if changed < 8000 || wrong < 100 {
		t.Errorf("%d and %d cases only", changed, wrong)
	}
}

// P9.1: Equal compares normal forms.
func TestEqual(t *testing.T) {
	for _, c := range []struct {
		t, u string
		want bool
	}{
		{"a:any", "a:any", true},
		{"a:any", "b:any", false},
		{"a:any", "a:nonce", false},
		{"?x", "?x", true},
		{"?x", "?y", false},
		{"zero()", "one()", false},
		{"pair(a:any, b:any)", "pair(b:any, a:any)", false},
		{"xor(a:any, b:any)", "xor(b:any, a:any)", true},
		{"fst(pair(a:any, b:any))", "snd(pair(b:any, a:any))", true},
		{"fst(pair(a:any, b:any))", "snd(pair(a:any, b:any))", false},
		{"dec(enc(a:any, k:key), n:key)", "a:any", false},
		{"dec(enc(a:any, k:key), n:key)", "dec(enc(a:any, snd(pair(b:any, k:key))), n:key)", true},
		{"exp(exp(g:data, x:nonce), y:nonce)", "exp(exp(g:data, y:nonce), x:nonce)", true},
		{"exp(exp(g:data, x:nonce), y:nonce)", "exp(g:data, mul(y:nonce, x:nonce))", true},
		{"exp(g:data, x:nonce)", "exp(g:data, inv(x:nonce))", false},
		{"mul(a:any, inv(a:any))", "mul(b:any, inv(b:any))", true},
		{"xor(a:any, a:any)", "xor(b:any, zero(), b:any)", true},
		{"f(a:any)", "f(a:any)", false},
	} {
		x, y := must(t, c.t), must(t, c.u)
		if theory.Equal(x, y) != c.want || theory.Equal(y, x) != c.want {
			t.Errorf("%s, %s: not %v", c.t, c.u, c.want)
		}
	}
}
