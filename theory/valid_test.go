package theory_test

import (
	"math/rand/v2"
	"slices"
	"testing"

	"sealring/api"
	"sealring/theory"
)

// P9.1: terms that are valid in the theory, free or not, plain or not.
func TestFreeAndPlain(t *testing.T) {
	for _, c := range []struct {
		t           string
		free, plain bool
	}{
		{"a:any", true, true},
		{"?x", true, true},
		{"?x:agent", true, true},
		{"f:tag", true, true},
		{"pair(enc(a:any, ?k), aenc(b:any, pk(?k)))", true, true},
		{"sign(hash(a:any), sk(b:agent))", true, true},
		{"shk(?x:agent, a:agent)", true, true},
		{"shk(a:agent, a:agent)", true, true},
		{"new(a:any)", true, true},
		{"new(a:agent, ?x, b:any, c:any, d:any, e:any, f:any, g:any)", true, true},
		{"new(a:tag, zero())", false, true},

		// names of atoms and variables are no symbols
		{"pair(xor:any, dec:key)", true, true},
		{"pair(?mul, ?fst)", true, true},

		{"zero()", false, true},
		{"one()", false, true},
		{"xor(a:any, b:any)", false, true},
		{"xor(b:any, a:any)", false, false},
		{"xor(a:any, a:any)", false, false},
		{"xor(a:any, xor(b:any, c:any))", false, false},
		{"xor(a:any, zero())", false, false},
		{"hash(hash(zero()))", false, true},
		{"pair(a:any, hash(xor(b:any, a:any)))", false, false},
		{"exp(a:any, b:any)", false, true},
		{"exp(a:any, one())", false, false},
		{"exp(exp(a:any, b:any), c:any)", false, false},
		{"exp(a:any, mul(b:any, c:any))", false, true},
		{"exp(a:any, mul(c:any, b:any))", false, false},
		{"mul(a:any, a:any)", false, true},
		{"mul(a:any, inv(a:any))", false, false},
		{"mul(a:any, inv(b:any))", false, true},
		{"mul(inv(b:any), a:any)", false, false},
		{"inv(a:any)", false, true},
		{"inv(inv(a:any))", false, false},
		{"inv(one())", false, false},
		{"inv(zero())", false, true},

		// destructors, whether their rules fit or not
		{"fst(a:any)", false, false},
		{"snd(pair(a:any, b:any))", false, false},
		{"dec(a:any, b:any)", false, false},
		{"adec(a:any, b:any)", false, false},
		{"open(a:any, b:any)", false, false},
		{"read(a:any)", false, false},
		{"pair(hash(a:any), hash(read(b:any)))", false, false},
		{"xor(a:any, fst(a:any))", false, false},
	} {
		x := must(t, c.t)
		if e := theory.Valid(x); e != api.OK {
			t.Errorf("Valid(%s): %v", c.t, e)
		}
		if theory.Free(x) != c.free || theory.Plain(x) != c.plain {
			t.Errorf("%s: %v, %v", c.t, theory.Free(x), theory.Plain(x))
		}
	}
}

// P9.1: the errors of terms that are not valid in the theory, which are neither
// free nor plain, have no normal form, and are equal to nothing.
func TestInvalid(t *testing.T) {
	for what, c := range invalid() {
		if e := theory.Valid(c.t); e != c.want {
			t.Errorf("%s: %v, not %v", what, e, c.want)
		}
		if n, e := theory.Normal(c.t); e != c.want || !isZero(n) {
			t.Errorf("Normal, %s: %s, %v, not %v", what, text(n), e, c.want)
		}
		if k, e := theory.Key(c.t); e != c.want || !isZero(k) {
			t.Errorf("Key, %s: %s, %v, not %v", what, text(k), e, c.want)
		}
		if u, e := theory.Tuple([]api.Term{c.t}); e != c.want || !isZero(u) {
			t.Errorf("Tuple, %s: %s, %v, not %v", what, text(u), e, c.want)
		}
		a := atom("a", api.SortAny)
		if theory.Free(c.t) || theory.Plain(c.t) || theory.Equal(c.t, c.t) || theory.Equal(c.t, a) || theory.Equal(a, c.t) {
			t.Errorf("%s: free, plain or equal", what)
		}
	}
}

// P9.1: terms as large and as deep as may be are valid.
func TestGreatestTerms(t *testing.T) {
	a := atom("a", api.SortAny)
	for _, x := range []api.Term{sized(400), tower(40, "hash", a), tower(40, "inv", a), app("xor", slices.Repeat([]api.Term{a}, 8)...)} {
		if e := theory.Valid(x); e != api.OK {
			t.Errorf("Valid(%s): %v", text(x), e)
		}
	}
	if x := sized(400); !theory.Free(x) || !theory.Plain(x) {
		t.Errorf("%v, %v", theory.Free(x), theory.Plain(x))
	}
}

// P9.1: Valid, Free and Plain are what the document says.
func TestValidByDefinition(t *testing.T) {
	r := rand.New(rand.NewPCG(1, 2))
	var wrong, free, plain int
	for k := range 20000 {
		x := randomTerm(r, everything[:16+r.IntN(len(everything)-15)], 2+r.IntN(5))
		if k%2 == 0 {
			x = spoiled(r, x)
		}
		e := theory.Valid(x)
		if e != refValid(x) || theory.Free(x) != refFree(x) || theory.Plain(x) != refPlain(x) {
			t.Fatalf("%s: %v, %v, %v", text(x), e, theory.Free(x), theory.Plain(x))
		}
		switch {
		case e != api.OK:
			wrong++
		case theory.Free(x):
			free++
		case theory.Plain(x):
			plain++
		}
	}
	if wrong < 1000 || free < 1000 || plain < 1000 {
		t.Errorf("%d, %d and %d cases only", wrong, free, plain)
	}
}

// spoiled changes a term at a few places, so that it often is not valid.
func spoiled(r *rand.Rand, x api.Term) api.Term {
	y := x
	y.Kids = nil
	for _, kid := range x.Kids {
		y.Kids = append(y.Kids, spoiled(r, kid))
	}
	if r.IntN(12) > 0 {
		return y
	}
	switch r.IntN(5) {
	case 0:
		y.Name = pick(r, []string{"f", "sk", "shk", "new", "zero", "pair", "read", ""})
	case 1:
		y.Kids = append(y.Kids, randomLeaf(r))
	case 2:
		y.Kids = y.Kids[:len(y.Kids)/2]
	case 3:
		y.Sort = r.IntN(7)
	default:
		return app("hash", y)
	}
	return y
}
