package refute_test

import (
	"math/rand/v2"
	"testing"

	"sealring/api"
	"sealring/refute"
)

// P12.1: Blocked returns the missing terms with which one step leads to another
// one.
func TestBlocked(t *testing.T) {
	for _, c := range []struct{ k, t, want string }{
		// the example of the document
		{"enc(m:any, k:key)", "m:any", "k:key"},

		{"", "a:any", ""},
		{"a:any", "b:any", ""},
		{"", "hash(a:any)", "a:any"},
		{"", "pair(a:any, b:any)", "pair(a:any, b:any)"},
		{"a:any", "pair(a:any, b:any)", "b:any; pair(a:any, b:any)"},
		{"", "pair(a:agent, a:any)", "a:any; pair(a:agent, a:any)"},
		{"", "hash(hash(a:any))", "a:any; hash(a:any)"},
		{"enc(enc(m:any, k:key), l:key)", "m:any", "l:key"},
		{"enc(enc(m:any, k:key), l:key); k:key", "m:any", "l:key; m:any; enc(m:any, k:key)"},
		{"enc(m:any, pair(k:key, l:key)); k:key", "m:any", "l:key; pair(k:key, l:key)"},
		{"aenc(m:any, pk(sk(a:agent)))", "m:any", "sk(a:agent)"},
		{"aenc(m:any, k:key)", "m:any", ""},
		{"sign(m:any, sk(a:agent))", "sk(a:agent)", ""},
		{"", "sign(a:any, b:any)", "sign(a:any, b:any)"},
		{"xor(a:any, b:any)", "a:any", "a:any; b:any"},
		{"xor(a:any, b:any, c:any)", "a:any", ""},
		{"xor(a:any, b:any, c:any); xor(c:any, d:any)", "a:any", "c:any; d:any"},
		{"xor(a:any, b:any); xor(c:any, d:any); xor(b:any, c:any, e:any)", "a:any", "a:any; b:any; c:any; d:any"},
		{"xor(a:any, b:any)", "xor(a:any, c:any)", "a:any; b:any"},
		{"exp(h:any, x:any)", "h:any", "x:any"},
		{"exp(h:any, x:any); x:any", "y:any", ""},
		{"exp(g:data, x:any); exp(g:data, y:any)", "exp(g:data, mul(x:any, y:any))", "x:any; y:any; mul(x:any, y:any)"},
		{"exp(g:data, x:any); y:any", "exp(g:data, mul(x:any, z:any))", "z:any; mul(x:any, z:any)"},
		{"", "exp(h:any, x:any)", ""},
		{"x:any", "exp(h:any, x:any)", "h:any; exp(h:any, x:any)"},
		{"mul(x:any, y:any)", "x:any", "x:any; y:any"},
		{"mul(x:any, x:any, y:any)", "x:any", "x:any"},
		{"mul(x:any, x:any)", "inv(x:any)", "x:any; inv(x:any)"},
		{"mul(x:any, y:any, z:any)", "x:any", ""},
		{"mul(x:any, y:any, z:any)", "inv(x:any)", "x:any; inv(x:any)"},
	} {
		k, x := all(t, c.k), must(t, c.t)
		if l, e := refute.Blocked(k, x); texts(l) != c.want || e != api.OK {
			t.Errorf("%s; %s: %s, %v", c.k, c.t, texts(l), e)
		}
		if want := texts(refBlocked(k, x)); want != c.want {
			t.Errorf("%s; %s: %s by the definition", c.k, c.t, want)
		}
	}
	for _, c := range derivables {
		k := all(t, c.k)
		for _, x := range append(all(t, c.in), k...) {
			if l, e := refute.Blocked(k, x); e != api.ErrExists || len(l) != 0 {
				t.Errorf("%s; %s: %s, %v", c.k, text(x), texts(l), e)
			}
		}
	}
}

// P12.1: Blocked is as the definition says, on random terms of all kinds.
func TestBlockedOfRandomTerms(t *testing.T) {
	r := rand.New(rand.NewPCG(6, 6))
	found := 0
	for i := range 2000 {
		q := randomOpen(r, i%len(kinds))
		got, e := refute.Blocked(q.k, q.t)
		if want := refBlocked(q.k, q.t); e != api.OK || !sameTerms(got, want) {
			t.Fatalf("%s; %s: %s, %v, not %s", texts(q.k), text(q.t), texts(got), e, texts(want))
		}
		found += len(got)
	}
	if found < 2000 {
		t.Errorf("%d terms only", found)
	}
}
