package proof_test

import (
	"math"
	"math/rand/v2"
	"slices"
	"testing"
	"time"

	"sealring/api"
	"sealring/proof"
)

// derivations are derivations that are right, and others that are not, of their
// last Terms.
var derivations = []struct {
	k, l string
	want bool
}{
	// the examples of the document
	{"enc(m:any, k:key); pair(n:nonce, k:key)", "given 0: enc(m:any, k:key); given 1: pair(n:nonce, k:key); second 1: k:key; dec 0 2: m:any", true},
	{"xor(a:any, b:any); b:any", "given 0: xor(a:any, b:any); given 1: b:any; sum 0 1: a:any", true},
	{"exp(g:data, x:nonce); y:nonce", "given 0: exp(g:data, x:nonce); given 1: y:nonce; power 0 1^1: exp(g:data, mul(x:nonce, y:nonce))", true},

	// given
	{"a:any; b:any", "given 0: a:any", true},
	{"a:any; b:any", "given 1: b:any", true},
	{"a:any; b:any", "given 0: b:any", false},
	{"a:any; b:any", "given 2: a:any", false},
	{"a:any; a:any", "given 1: a:any", true},
	{"", "given 0: a:any", false},
	{"pair(a:any, b:any)", "given 0: a:any", false},
	{"a:any", "given 0: a:nonce", false},

	// public
	{"", "public: a:agent", true},
	{"", "public: hi:tag", true},
	{"", "public: g:data", true},
	{"", "public: e#0:key", true},
	{"", "public: zero()", true},
	{"", "public: one()", true},
	{"", "public: h:data", false},
	{"", "public: e#:key", false},
	{"a:any", "public: a:any", false},
	{"", "public: pair(a:agent, b:agent)", false},

	// pair, enc, aenc, pk, sign, hash: the symbol, and the order of the kids
	{"a:any; b:any", "given 0: a:any; given 1: b:any; pair 0 1: pair(a:any, b:any)", true},
	{"a:any; b:any", "given 0: a:any; given 1: b:any; pair 1 0: pair(a:any, b:any)", false},
	{"a:any; b:any", "given 0: a:any; given 1: b:any; pair 0 0: pair(a:any, a:any)", true},
	{"a:any; b:any", "given 0: a:any; given 1: b:any; pair 0 1: enc(a:any, b:any)", false},
	{"a:any; b:any", "given 0: a:any; given 1: b:any; pair 0 1: pair(a:any, c:any)", false},
	{"a:any; b:any", "given 0: a:any; given 1: b:any; enc 0 1: enc(a:any, b:any)", true},
	{"a:any; b:any", "given 0: a:any; given 1: b:any; enc 1 0: enc(a:any, b:any)", false},
	{"a:any; b:any", "given 0: a:any; given 1: b:any; enc 0 1: aenc(a:any, b:any)", false},
	{"a:any; b:any", "given 0: a:any; given 1: b:any; aenc 0 1: aenc(a:any, b:any)", true},
	{"a:any; b:any", "given 0: a:any; given 1: b:any; aenc 0 1: enc(a:any, b:any)", false},
	{"a:any; b:any", "given 0: a:any; given 1: b:any; aenc 0 1: aenc(a:any, pk(b:any))", false},
	{"a:any; b:any", "given 0: a:any; given 1: b:any; sign 0 1: sign(a:any, b:any)", true},
	{"a:any; b:any", "given 0: a:any; given 1: b:any; sign 1 0: sign(a:any, b:any)", false},
	{"a:any", "given 0: a:any; pk 0: pk(a:any)", true},
	{"a:any", "given 0: a:any; pk 0: hash(a:any)", false},
	{"a:any", "given 0: a:any; hash 0: hash(a:any)", true},
	{"a:any", "given 0: a:any; hash 0: pk(a:any)", false},
	{"a:any", "given 0: a:any; hash 0: hash(b:any)", false},
	{"a:any; b:any", "given 0: a:any; given 1: b:any; pair 0 1: a:any", false},
	{"a:any", "given 0: a:any; hash 0: hash:any", false},

	// first, second
	{"pair(a:any, b:any)", "given 0: pair(a:any, b:any); first 0: a:any", true},
	{"pair(a:any, b:any)", "given 0: pair(a:any, b:any); first 0: b:any", false},
	{"pair(a:any, b:any)", "given 0: pair(a:any, b:any); second 0: b:any", true},
	{"pair(a:any, b:any)", "given 0: pair(a:any, b:any); second 0: a:any", false},
	{"pair(a:any, a:any)", "given 0: pair(a:any, a:any); second 0: a:any", true},
	{"enc(a:any, b:any)", "given 0: enc(a:any, b:any); first 0: a:any", false},
	{"sign(a:any, b:any)", "given 0: sign(a:any, b:any); second 0: b:any", false},
	{"pair:any", "given 0: pair:any; first 0: pair:any", false},

	// dec
	{"enc(m:any, k:key); k:key", "given 0: enc(m:any, k:key); given 1: k:key; dec 0 1: m:any", true},
	{"enc(m:any, k:key); k:key", "given 0: enc(m:any, k:key); given 1: k:key; dec 1 0: m:any", false},
	{"enc(m:any, k:key); k:key", "given 0: enc(m:any, k:key); given 1: k:key; dec 0 0: m:any", false},
	{"enc(m:any, k:key); k:key", "given 0: enc(m:any, k:key); given 1: k:key; dec 0 1: k:key", false},
	{"enc(m:any, k:key); k:any", "given 0: enc(m:any, k:key); given 1: k:any; dec 0 1: m:any", false},
	{"enc(m:any, pk(k:key)); k:key", "given 0: enc(m:any, pk(k:key)); given 1: k:key; dec 0 1: m:any", false},
	{"aenc(m:any, k:key); k:key", "given 0: aenc(m:any, k:key); given 1: k:key; dec 0 1: m:any", false},
	{"pair(m:any, k:key); k:key", "given 0: pair(m:any, k:key); given 1: k:key; dec 0 1: m:any", false},

	// adec
	{"aenc(m:any, pk(k:key)); k:key", "given 0: aenc(m:any, pk(k:key)); given 1: k:key; adec 0 1: m:any", true},
	{"aenc(m:any, pk(k:key)); pk(k:key)", "given 0: aenc(m:any, pk(k:key)); given 1: pk(k:key); adec 0 1: m:any", false},
	{"aenc(m:any, pk(pk(k:key))); pk(k:key)", "given 0: aenc(m:any, pk(pk(k:key))); given 1: pk(k:key); adec 0 1: m:any", true},
	{"aenc(m:any, k:key); k:key", "given 0: aenc(m:any, k:key); given 1: k:key; adec 0 1: m:any", false},
	{"aenc(m:any, hash(k:key)); k:key", "given 0: aenc(m:any, hash(k:key)); given 1: k:key; adec 0 1: m:any", false},
	{"aenc(m:any, pk(k:key)); k:key", "given 0: aenc(m:any, pk(k:key)); given 1: k:key; adec 0 1: k:key", false},
	{"enc(m:any, pk(k:key)); k:key", "given 0: enc(m:any, pk(k:key)); given 1: k:key; adec 0 1: m:any", false},
	{"aenc(m:any, pk(sk(a:agent))); sk(a:agent)", "given 0: aenc(m:any, pk(sk(a:agent))); given 1: sk(a:agent); adec 0 1: m:any", true},

	// read
	{"sign(m:any, k:key)", "given 0: sign(m:any, k:key); read 0: m:any", true},
	{"sign(m:any, k:key)", "given 0: sign(m:any, k:key); read 0: k:key", false},
	{"pair(m:any, k:key)", "given 0: pair(m:any, k:key); read 0: m:any", false},
	{"sign:any", "given 0: sign:any; read 0: sign:any", false},

	// sum
	{"", "sum: zero()", true},
	{"", "sum: one()", false},
	{"a:any", "given 0: a:any; sum 0: a:any", true},
	{"a:any", "given 0: a:any; sum 0 0: zero()", true},
	{"a:any", "given 0: a:any; sum 0 0: a:any", false},
	{"a:any", "given 0: a:any; sum 0 0 0: a:any", true},
	{"a:any; b:any", "given 0: a:any; given 1: b:any; sum 1 0: xor(a:any, b:any)", true},
	{"a:any; b:any", "given 0: a:any; given 1: b:any; sum 0: xor(a:any, b:any)", false},
	{"xor(a:any, b:any); xor(b:any, c:any)", "given 0: xor(a:any, b:any); given 1: xor(b:any, c:any); sum 0 1: xor(a:any, c:any)", true},
	{"xor(a:any, b:any); xor(b:any, c:any)", "given 0: xor(a:any, b:any); given 1: xor(b:any, c:any); sum 0 1: xor(a:any, b:any, c:any)", false},
	{"xor(a:any, hash(b:any)); a:any", "given 0: xor(a:any, hash(b:any)); given 1: a:any; sum 0 1: hash(b:any)", true},
	{"xor(a:any, b:any); zero()", "given 0: xor(a:any, b:any); given 1: zero(); sum 0 1: xor(a:any, b:any)", true},

	// power
	{"y:nonce", "given 0: y:nonce; power 0: y:nonce", true},
	{"y:nonce; x:nonce", "given 0: y:nonce; given 1: x:nonce; power 0: x:nonce", false},
	{"y:nonce; x:nonce", "given 0: y:nonce; given 1: x:nonce; power 0 1^1: exp(y:nonce, x:nonce)", true},
	{"y:nonce; x:nonce", "given 0: y:nonce; given 1: x:nonce; power 0 1^2: exp(y:nonce, x:nonce)", false},
	{"y:nonce; x:nonce", "given 0: y:nonce; given 1: x:nonce; power 0 1^2: exp(y:nonce, mul(x:nonce, x:nonce))", true},
	{"y:nonce; x:nonce", "given 0: y:nonce; given 1: x:nonce; power 0 1^3 1^-2: exp(y:nonce, x:nonce)", true},
	{"y:nonce; x:nonce", "given 0: y:nonce; given 1: x:nonce; power 0 1^0: y:nonce", true},
	{"y:nonce; x:nonce", "given 0: y:nonce; given 1: x:nonce; power 1 0^1: exp(y:nonce, x:nonce)", false},
	{"y:nonce", "given 0: y:nonce; power 0 0^1: exp(y:nonce, y:nonce)", true},
	{"exp(b:any, x:nonce); x:nonce", "given 0: exp(b:any, x:nonce); given 1: x:nonce; power 0 1^-1: b:any", true},
	{"exp(b:any, x:nonce); x:nonce", "given 0: exp(b:any, x:nonce); given 1: x:nonce; power 0 1^-2: exp(b:any, inv(x:nonce))", true},
	{"exp(b:any, x:nonce); x:nonce", "given 0: exp(b:any, x:nonce); given 1: x:nonce; power 0 1^-1: c:any", false},
	{"exp(b:any, mul(x:nonce, y:nonce)); y:nonce", "given 0: exp(b:any, mul(x:nonce, y:nonce)); given 1: y:nonce; power 0 1^-1: exp(b:any, x:nonce)", true},
	{"exp(b:any, mul(x:nonce, y:nonce)); y:nonce", "given 0: exp(b:any, mul(x:nonce, y:nonce)); given 1: y:nonce; power 0 1^-1: exp(b:any, y:nonce)", false},
	{"exp(b:any, x:nonce); mul(x:nonce, inv(y:nonce))", "given 0: exp(b:any, x:nonce); given 1: mul(x:nonce, inv(y:nonce)); power 0 1^-1: exp(b:any, y:nonce)", true},
	{"exp(b:any, x:nonce); exp(c:any, x:nonce)", "given 0: exp(b:any, x:nonce); given 1: exp(c:any, x:nonce); power 0: exp(c:any, x:nonce)", false},
	{"exp(b:any, x:nonce); hash(a:any)", "given 0: exp(b:any, x:nonce); given 1: hash(a:any); power 0 1^1: exp(b:any, mul(x:nonce, hash(a:any)))", true},
	{"exp(b:any, x:nonce); one()", "given 0: exp(b:any, x:nonce); given 1: one(); power 0 1^7: exp(b:any, x:nonce)", true},
	{"mul(x:nonce, y:nonce); y:nonce", "given 0: mul(x:nonce, y:nonce); given 1: y:nonce; power 0 1^-1: x:nonce", false},

	// product
	{"", "product: one()", true},
	{"", "product: zero()", false},
	{"a:any", "given 0: a:any; product 0^1: a:any", true},
	{"a:any", "given 0: a:any; product 0^0: one()", true},
	{"a:any", "given 0: a:any; product 0^0: a:any", false},
	{"a:any", "given 0: a:any; product 0^-1: inv(a:any)", true},
	{"a:any", "given 0: a:any; product 0^2 0^-1: a:any", true},
	{"inv(a:any)", "given 0: inv(a:any); product 0^-1: a:any", true},
	{"mul(x:nonce, y:nonce); y:nonce", "given 0: mul(x:nonce, y:nonce); given 1: y:nonce; product 0^1 1^-1: x:nonce", true},
	{"mul(x:nonce, y:nonce); y:nonce", "given 0: mul(x:nonce, y:nonce); given 1: y:nonce; product 0^1 1^1: x:nonce", false},
	{"mul(x:nonce, x:nonce); mul(x:nonce, x:nonce, x:nonce)", "given 0: mul(x:nonce, x:nonce); given 1: mul(x:nonce, x:nonce, x:nonce); product 0^-1 1^1: x:nonce", true},
	{"mul(x:nonce, x:nonce); mul(x:nonce, x:nonce, x:nonce)", "given 0: mul(x:nonce, x:nonce); given 1: mul(x:nonce, x:nonce, x:nonce); product 0^35184372088832 1^-23456248059221 1^0: mul(x:nonce, x:nonce)", false},
	{"exp(b:any, x:nonce); x:nonce", "given 0: exp(b:any, x:nonce); given 1: x:nonce; product 0^1 1^-1: b:any", false},

	// the greatest coefficients
	{"a:any", "given 0: a:any; product 0^35184372088832 0^-35184372088831: a:any", true},
	{"a:any", "given 0: a:any; product 0^-35184372088832 0^35184372088832: one()", true},

	// steps that are not needed have to be right, too
	{"a:any; b:any", "given 0: b:any; given 0: a:any", false},
	{"a:any; b:any", "given 1: b:any; given 0: a:any", true},
	{"a:any; b:any", "public: b:any; given 0: a:any", false},

	// longer ones
	{"aenc(pair(k:key, a:agent), pk(sk(b:agent))); sk(b:agent); enc(sign(m:any, sk(a:agent)), hash(k:key))", "given 0: aenc(pair(k:key, a:agent), pk(sk(b:agent))); given 1: sk(b:agent); adec 0 1: pair(k:key, a:agent); first 2: k:key; hash 3: hash(k:key); given 2: enc(sign(m:any, sk(a:agent)), hash(k:key)); dec 5 4: sign(m:any, sk(a:agent)); read 6: m:any", true},
}

// P11.1: Check accepts derivations that are right, and no others.
func TestCheck(t *testing.T) {
	for _, c := range derivations {
		k, l := all(t, c.k), steps(t, c.l)
		if got := proof.Check(k, l, last(l)); got != c.want || refCheck(k, l, last(l)) != c.want {
			t.Errorf("%s; %s: %v", c.k, c.l, got)
		}
		if proof.Check(k, l, must(t, "other:any")) || proof.Check(k, nil, last(l)) || proof.Check(k, l, api.Term{}) {
			t.Errorf("%s; %s: another conclusion, or no steps", c.k, c.l)
		}
		if len(l) > 1 && proof.Check(k, l, l[0].Term) && !same(last(l), l[0].Term) {
			t.Errorf("%s; %s: the Term of the first step", c.k, c.l)
		}
	}
}

// P11.1: steps that are not written as the table says are not right.
func TestCheckShapes(t *testing.T) {
	k := all(t, "pair(a:any, b:any); a:any; b:any; g:data")
	begin := []api.Deduction{{Rule: api.ByGiven, Term: k[0]}, {Rule: api.ByGiven, N: 1, Term: k[1]}}
	for what, c := range map[string]struct {
		d    api.Deduction
		want bool
	}{
		"given":                  {api.Deduction{Rule: api.ByGiven, N: 2, Term: k[2]}, true},
		"given, N too large":     {api.Deduction{Rule: api.ByGiven, N: 4, Term: k[2]}, false},
		"given, N negative":      {api.Deduction{Rule: api.ByGiven, N: -1, Term: k[2]}, false},
		"given, least N":         {api.Deduction{Rule: api.ByGiven, N: math.MinInt, Term: k[2]}, false},
		"given, with Args":       {api.Deduction{Rule: api.ByGiven, N: 2, Args: []int{0}, Term: k[2]}, false},
		"given, with Coeffs":     {api.Deduction{Rule: api.ByGiven, N: 2, Coeffs: []int{1}, Term: k[2]}, false},
		"public":                 {api.Deduction{Rule: api.ByPublic, Term: k[3]}, true},
		"public, with N":         {api.Deduction{Rule: api.ByPublic, N: 3, Term: k[3]}, false},
		"public, with Args":      {api.Deduction{Rule: api.ByPublic, Args: []int{1}, Term: k[3]}, false},
		"first":                  {api.Deduction{Rule: api.ByFirst, Args: []int{0}, Term: k[1]}, true},
		"first, with N":          {api.Deduction{Rule: api.ByFirst, N: 1, Args: []int{0}, Term: k[1]}, false},
		"first, no Args":         {api.Deduction{Rule: api.ByFirst, Term: k[1]}, false},
		"first, two Args":        {api.Deduction{Rule: api.ByFirst, Args: []int{0, 0}, Term: k[1]}, false},
		"first, with Coeffs":     {api.Deduction{Rule: api.ByFirst, Args: []int{0}, Coeffs: []int{1}, Term: k[1]}, false},
		"first of itself":        {api.Deduction{Rule: api.ByFirst, Args: []int{2}, Term: k[1]}, false},
		"first of a later one":   {api.Deduction{Rule: api.ByFirst, Args: []int{3}, Term: k[1]}, false},
		"first of -1":            {api.Deduction{Rule: api.ByFirst, Args: []int{-1}, Term: k[1]}, false},
		"first of the least int": {api.Deduction{Rule: api.ByFirst, Args: []int{math.MinInt}, Term: k[1]}, false},
		"pair, one of Args":      {api.Deduction{Rule: api.ByPair, Args: []int{1}, Term: app("pair", k[1])}, false},
		"pair":                   {api.Deduction{Rule: api.ByPair, Args: []int{1, 1}, Term: app("pair", k[1], k[1])}, true},
		"pair, three Args":       {api.Deduction{Rule: api.ByPair, Args: []int{1, 1, 1}, Term: app("pair", k[1], k[1])}, false},
		"sum":                    {api.Deduction{Rule: api.BySum, Args: []int{1}, Term: k[1]}, true},
		"sum, with Coeffs":       {api.Deduction{Rule: api.BySum, Args: []int{1}, Coeffs: []int{1}, Term: k[1]}, false},
		"sum, with N":            {api.Deduction{Rule: api.BySum, N: 1, Args: []int{1}, Term: k[1]}, false},
		"sum of itself":          {api.Deduction{Rule: api.BySum, Args: []int{2}, Term: k[1]}, false},
		"power":                  {api.Deduction{Rule: api.ByPower, Args: []int{1}, Term: k[1]}, true},
		"power, no Args":         {api.Deduction{Rule: api.ByPower, Term: app("one")}, false},
		"power, too many Coeffs": {api.Deduction{Rule: api.ByPower, Args: []int{1}, Coeffs: []int{1}, Term: k[1]}, false},
		"power, too few Coeffs":  {api.Deduction{Rule: api.ByPower, Args: []int{1, 1}, Term: k[1]}, false},
		"power of -1":            {api.Deduction{Rule: api.ByPower, Args: []int{-1}, Term: k[1]}, false},
		"power, with N":          {api.Deduction{Rule: api.ByPower, N: -1, Args: []int{1}, Term: k[1]}, false},
		"product":                {api.Deduction{Rule: api.ByProduct, Args: []int{1}, Coeffs: []int{1}, Term: k[1]}, true},
		"product, no Coeffs":     {api.Deduction{Rule: api.ByProduct, Args: []int{1}, Term: k[1]}, false},
		"product, Coeffs alone":  {api.Deduction{Rule: api.ByProduct, Coeffs: []int{1}, Term: k[1]}, false},
		"product, great Coeffs":  {api.Deduction{Rule: api.ByProduct, Args: []int{1, 1}, Coeffs: []int{1<<45 + 1, -1 << 45}, Term: k[1]}, false},
		"product, small Coeffs":  {api.Deduction{Rule: api.ByProduct, Args: []int{1, 1}, Coeffs: []int{-1<<45 - 1, 1 << 45}, Term: app("inv", k[1])}, false},
		"product, least Coeffs":  {api.Deduction{Rule: api.ByProduct, Args: []int{1, 1}, Coeffs: []int{math.MinInt, math.MaxInt}, Term: app("inv", k[1])}, false},
		"rule 0":                 {api.Deduction{Term: k[1]}, false},
		"rule 17":                {api.Deduction{Rule: 17, Term: k[1]}, false},
		"rule -1":                {api.Deduction{Rule: -1, Term: k[1]}, false},
		"the greatest rule":      {api.Deduction{Rule: math.MaxInt, Term: k[1]}, false},
	} {
		l := append(slices.Clone(begin), c.d)
		if got := proof.Check(k, l, c.d.Term); got != c.want || refCheck(k, l, c.d.Term) != c.want {
			t.Errorf("%s: %v", what, got)
		}
		if again := append(l, api.Deduction{Rule: api.ByGiven, N: 2, Term: k[2]}); proof.Check(k, again, k[2]) != c.want {
			t.Errorf("%s, before the last step: %v", what, !c.want)
		}
	}
}

// P11.1: all terms are valid in the theory, ground and plain, also those that
// are not needed.
func TestCheckTerms(t *testing.T) {
	a := atom("a", api.SortAny)
	given := []api.Deduction{{Rule: api.ByGiven, Term: a}}
	for what, c := range badTerms() {
		if proof.Check([]api.Term{a, c.t}, given, a) || proof.Local([]api.Term{a, c.t}, given) {
			t.Errorf("%s, given", what)
		}
		for _, d := range []api.Deduction{{Rule: api.ByGiven, N: 1, Term: c.t}, {Rule: api.BySum, Term: c.t}, {Rule: api.ByPower, Args: []int{0}, Term: c.t}, {Rule: api.ByHash, Args: []int{0}, Term: c.t}} {
			l := append(slices.Clone(given), d)
			if proof.Check([]api.Term{a, c.t}, l, c.t) || proof.Check([]api.Term{a}, l, c.t) || proof.Local([]api.Term{a}, l) {
				t.Errorf("%s, rule %d", what, d.Rule)
			}
			if l = append(l, given...); proof.Check([]api.Term{a}, l, a) {
				t.Errorf("%s, rule %d, not needed", what, d.Rule)
			}
		}
		if proof.Check([]api.Term{a}, given, c.t) {
			t.Errorf("%s: t", what)
		}
	}
}

// P11.1: K has at most 200 terms, a derivation at most 400 steps.
func TestCheckLimits(t *testing.T) {
	k := atoms("a", 201)
	given := []api.Deduction{{Rule: api.ByGiven, Term: k[0]}}
	if !proof.Check(k[:200], given, k[0]) || proof.Check(k, given, k[0]) {
		t.Error("200 or 201 terms")
	}
	if l := []api.Deduction{{Rule: api.ByGiven, N: 199, Term: k[199]}}; !proof.Check(k[:200], l, k[199]) || proof.Check(k[:199], l, k[199]) {
		t.Error("N 199")
	}
	for _, n := range []int{1, 2, 399, 400, 401, 1000} {
		if got := proof.Check(k[:1], slices.Repeat(given, n), k[0]); got != (n <= 400) {
			t.Errorf("%d steps: %v", n, got)
		}
	}
	// xor.Sum has at most 200 terms, exponent.Check as many generators.
	for _, n := range []int{199, 200, 201, 202, 1000} {
		args, coeffs := make([]int, n), make([]int, n)
		odd := k[0]
		if n%2 == 0 {
			odd = app("zero")
		}
		for what, c := range map[string]struct {
			d    api.Deduction
			want bool
		}{
			"sum":     {api.Deduction{Rule: api.BySum, Args: args, Term: odd}, n <= 200},
			"product": {api.Deduction{Rule: api.ByProduct, Args: args, Coeffs: coeffs, Term: app("one")}, n <= 200},
			"power":   {api.Deduction{Rule: api.ByPower, Args: args, Coeffs: coeffs[1:], Term: k[0]}, n <= 201},
		} {
			l := append(slices.Clone(given), c.d)
			if got := proof.Check(k[:1], l, c.d.Term); got != c.want || refCheck(k[:1], l, c.d.Term) != c.want {
				t.Errorf("%s of %d terms: %v", what, n, got)
			}
		}
	}
	if l := []api.Deduction{{Rule: api.ByGiven, Term: wide(400)}}; !proof.Check([]api.Term{wide(400)}, l, wide(400)) {
		t.Error("400 nodes")
	}
}

// P11.1: Local asks for the Terms to be in the universe, and for few terms.
func TestLocal(t *testing.T) {
	for _, c := range []struct {
		k, l string
		want bool
	}{
		{"a:any", "", false},
		{"a:any", "given 0: a:any", true},
		{"a:any", "given 0: b:any", false},
		{"a:any", "given 0: a:any; hash 0: hash(a:any)", true},
		{"a:any", "given 0: a:any; hash 0: hash(a:any); given 0: a:any", false},
		{"a:any; hash(a:any)", "given 0: a:any; hash 0: hash(a:any); given 0: a:any", true},
		{"a:any", "given 0: a:any; pair 0 0: pair(a:any, a:any); first 1: a:any", false},
		{"a:any", "given 0: a:any; public: b:agent; given 0: a:any", false},
		{"a:any", "given 0: a:any; public: b:agent; pair 0 1: pair(a:any, b:agent)", true},
		{"xor(a:any, b:any); xor(b:any, c:any); xor(c:any, d:any)", "given 0: xor(a:any, b:any); given 1: xor(b:any, c:any); sum 0 1: xor(a:any, c:any); given 2: xor(c:any, d:any); sum 2 3: xor(a:any, d:any)", false},
		{"xor(a:any, b:any); xor(b:any, c:any); xor(c:any, d:any)", "given 0: xor(a:any, b:any); given 1: xor(b:any, c:any); given 2: xor(c:any, d:any); sum 0 1 2: xor(a:any, d:any)", true},
		{"exp(g:data, x:nonce); x:nonce", "given 0: exp(g:data, x:nonce); given 1: x:nonce; power 0 1^-1: g:data", true},
		{"exp(g:data, x:nonce); x:nonce", "given 0: exp(g:data, x:nonce); given 1: x:nonce; product 1^-1: inv(x:nonce); power 0 1^-1: g:data", false},
		{"inv(x:nonce)", "given 0: inv(x:nonce); product 0^-1: x:nonce", true},
	} {
		k, l := all(t, c.k), steps(t, c.l)
		if got := proof.Local(k, l); got != c.want || refLocal(k, l) != c.want {
			t.Errorf("%s; %s: %v", c.k, c.l, got)
		}
	}
	k := atoms("a", 61)
	given := []api.Deduction{{Rule: api.ByGiven, Term: k[0]}}
	if !proof.Local(k[:60], given) || proof.Local(k, given) || !proof.Check(k, given, k[0]) {
		t.Error("60 or 61 terms")
	}
	exponents := all(t, "mul(a:any, b:any); mul(a:any, c:any); inv(a:any); inv(b:any); inv(c:any)")
	given[0].Term = exponents[0]
	if !proof.Local(exponents[:4], given) || proof.Local(exponents, given) || !proof.Check(exponents, given, exponents[0]) {
		t.Error("4 or 5 exponents")
	}
}

// spoiled returns a derivation in which something has been changed, which may
// leave it right.
func spoiled(r *rand.Rand, c derived) []api.Deduction {
	l := slices.Clone(c.l)
	i := r.IntN(len(l))
	d := l[i]
	d.Args, d.Coeffs = slices.Clone(d.Args), slices.Clone(d.Coeffs)
	switch r.IntN(8) {
	case 0:
		d.Rule = r.IntN(18)
	case 1:
		d.N += r.IntN(3) - 1
	case 2:
		d.Term = pick(r, append(slices.Clone(c.k), pick(r, l).Term, randomLeaf(r)))
	case 3:
		if len(d.Args) > 0 {
			d.Args[r.IntN(len(d.Args))] += r.IntN(5) - 2
		}
	case 4:
		if len(d.Coeffs) > 0 {
			d.Coeffs[r.IntN(len(d.Coeffs))] += r.IntN(3) - 1
		}
	case 5:
		d.Args = append(d.Args, r.IntN(i+1))
		if d.Rule == api.ByPower || d.Rule == api.ByProduct {
			d.Coeffs = append(d.Coeffs, r.IntN(2))
		}
	case 6:
		r.Shuffle(len(d.Args), func(a, b int) { d.Args[a], d.Args[b] = d.Args[b], d.Args[a] })
	case 7:
		j := r.IntN(len(l))
		l[j], d = d, l[j]
	}
	l[i] = d
	return l
}

// P11.1: Check and Local are as the definitions say, on derivations of all
// kinds in which something has been changed.
func TestCheckOfSpoiledDerivations(t *testing.T) {
	r := rand.New(rand.NewPCG(1, 1))
	var found [2]int
	for range 20000 {
		c := randomDerived(r)
		l := spoiled(r, c)
		if r.IntN(4) == 0 {
			l = spoiled(r, derived{c.k, l})
		}
		goal := last(l)
		want := refCheck(c.k, l, goal)
		if got := proof.Check(c.k, l, goal); got != want {
			t.Fatalf("%s\n%s%v", texts(c.k), lines(l), got)
		}
		if got := proof.Local(c.k, l); got != refLocal(c.k, l) {
			t.Fatalf("%s\n%slocal: %v", texts(c.k), lines(l), got)
		}
		if want {
			found[1]++
		} else {
			found[0]++
		}
	}
	if found[0] < 3000 || found[1] < 3000 {
		t.Errorf("%v cases only", found)
	}
}

// P11.1: derivations at the limits are checked in a reasonable time.
func TestLargeCheck(t *testing.T) {
	begin := time.Now()
	big := wide(399)
	k := slices.Repeat([]api.Term{big}, 200)
	args, coeffs := make([]int, 200), make([]int, 200)
	coeffs[199] = 1
	l := []api.Deduction{{Rule: api.ByGiven, Term: big}, {Rule: api.ByHash, Args: []int{0}, Term: app("hash", big)}}
	for len(l) < 400 {
		switch len(l) % 3 {
		case 0:
			l = append(l, api.Deduction{Rule: api.BySum, Args: args[:199], Term: big})
		case 1:
			l = append(l, api.Deduction{Rule: api.ByProduct, Args: args, Coeffs: coeffs, Term: big})
		case 2:
			l = append(l, api.Deduction{Rule: api.ByPower, Args: args, Coeffs: args[:199], Term: big})
		}
	}
	if !proof.Check(k, l, big) {
		t.Error("not right")
	}
	if s := time.Since(begin); s > 20*time.Second {
		t.Errorf("%v", s)
	}
}
