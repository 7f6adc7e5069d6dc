package xor_test

import (
	"math"
	"math/rand/v2"
	"slices"
	"testing"

	"sealring/api"
	"sealring/xor"
)

// Lists of sums with their bases, and terms that are in their spans, or not.
var spans = []struct {
	l       string
	basis   []int
	in, out string
}{
	{"ab bc", []int{0, 1}, "ac ab bc ba 0", "a b c abc d ad"},
	{"", nil, "0", "a ab"},
	{"0", nil, "0", "a"},
	{"0 0 a 0", []int{2}, "0 a", "b ab"},
	{"a", []int{0}, "a 0", "b ab"},
	{"a a", []int{0}, "a 0", "b ab"},
	{"a b a c", []int{0, 1, 3}, "a ab abc c", "d abcd"},
	{"ab b a", []int{0, 1}, "a b ab", "c abc"},
	{"ab bc ca", []int{0, 1}, "ac", "a abc"},
	{"ca ab bc", []int{0, 1}, "ac", "a abc"},
	{"ab cd abcd ac bd", []int{0, 1, 3}, "bd ad bc abcd", "a abc d abcde"},
	{"abc ab bc ac", []int{0, 1, 2}, "a b c", "d abd"},
	{"abcdefgh bcdefgh cdefgh", []int{0, 1, 2}, "a b ab bcdefgh acdefgh", "c abc h"},
	{"ab ac ad ae af ag ah ai", []int{0, 1, 2, 3, 4, 5, 6, 7}, "bc cdhi abcdefgh", "a abc i"},
	{"d c b a abcd", []int{0, 1, 2, 3}, "abcd ad", "e abcde"},
}

// P8.1: the rank of a list, and its basis.
func TestBasis(t *testing.T) {
	for _, c := range spans {
		l := letters(c.l)
		b, e := xor.Basis(l)
		n, f := xor.Rank(l)
		if e != api.OK || f != api.OK || !slices.Equal(b, c.basis) || n != len(c.basis) {
			t.Errorf("%s: %v, %v, %d, %v", c.l, b, e, n, f)
		}
		if len(l) < 7 && !slices.Equal(b, refBasis(l)) {
			t.Errorf("%s: %v by the definition", c.l, refBasis(l))
		}
	}
	l := all(t, "hash(xor(a:any, a:any))", "hash(zero())", "xor(hash(zero()), hash(xor(a:any, a:any)))", "zero(a:any)", "?a", "xor(a:any, ?a)", "a:any")
	if b, e := xor.Basis(l); e != api.OK || !slices.Equal(b, []int{0, 1, 3, 4, 5}) {
		t.Errorf("%s: %v, %v", texts(l...), b, e)
	}
}

// P8.1: Span returns a choice that Check accepts for what is in the span, and
// an error for what is not.
func TestSpan(t *testing.T) {
	for _, c := range spans {
		l := letters(c.l)
		for _, x := range letters(c.in) {
			if s, e := xor.Span(l, x); e != api.OK || !refCheck(l, x, s) || !xor.Check(l, x, s) {
				t.Errorf("%s, %s: %v, %v", c.l, texts(x), s, e)
			}
		}
		for _, x := range letters(c.out) {
			if s, e := xor.Span(l, x); e != api.ErrNotFound || len(s) != 0 {
				t.Errorf("%s, %s: %v, %v", c.l, texts(x), s, e)
			}
		}
	}
}

// P8.1: Check accepts all choices, and nothing else.
func TestCheck(t *testing.T) {
	for what, c := range map[string]struct {
		l, t string
		c    []int
		want bool
	}{
		// the example of the document
		"two":              {"ab bc", "ac", []int{0, 1}, true},
		"two, but another": {"ab bc", "a", []int{0, 1}, false},

		"nothing":                    {"", "0", nil, true},
		"nothing of some":            {"a b", "0", nil, true},
		"an empty list":              {"a b", "0", []int{}, true},
		"nothing, but a term":        {"a b", "a", nil, false},
		"one":                        {"a b", "b", []int{1}, true},
		"another one":                {"a b", "b", []int{0}, false},
		"the last one":               {"a b c", "c", []int{2}, true},
		"one too many":               {"a b c", "c", []int{1, 2}, false},
		"one too few":                {"a b c", "abc", []int{0, 2}, false},
		"a sum of all":               {"a b c", "cba", []int{0, 1, 2}, true},
		"what cancels":               {"a b a", "b", []int{0, 1, 2}, true},
		"what is zero":               {"a 0 b", "ab", []int{0, 1, 2}, true},
		"only what is zero":          {"a 0 b", "0", []int{1}, true},
		"all, and nothing":           {"ab bc ca", "0", []int{0, 1, 2}, true},
		"a choice that is not least": {"ab bc ca ab", "ac", []int{1, 3}, true},
		"not ascending":              {"ab bc", "ac", []int{1, 0}, false},
		"descending at last":         {"a b c", "abc", []int{0, 2, 1}, false},
		"an index twice":             {"a b", "0", []int{1, 1}, false},
		"an index three times":       {"a b", "b", []int{1, 1, 1}, false},
		"an index twice at last":     {"a b", "a", []int{0, 1, 1}, false},
		"an index -1":                {"a b", "a", []int{-1, 0}, false},
		"only an index -1":           {"a b", "0", []int{-1}, false},
		"an index behind the list":   {"a b", "a", []int{0, 2}, false},
		"an index of nothing":        {"", "0", []int{0}, false},
		"the greatest index":         {"a b", "a", []int{0, math.MaxInt}, false},
		"the least index":            {"a b", "a", []int{math.MinInt, 0}, false},
	} {
		l, x := letters(c.l), letter(c.t)
		if xor.Check(l, x, c.c) != c.want || refCheck(l, x, c.c) != c.want {
			t.Errorf("%s: not %v", what, c.want)
		}
	}
	for _, c := range []struct {
		l    []string
		t    string
		want bool
	}{
		{[]string{"xor(a:any, xor(b:any, b:any))"}, "a:any", true},
		{[]string{"a:any"}, "xor(xor(a:any), zero())", true},
		{[]string{"xor()"}, "zero()", true},
		{[]string{"xor(b:any, a:any)"}, "xor(a:any, b:any)", true},
		{[]string{"a:nonce"}, "a:any", false},
		{[]string{"?a"}, "a:any", false},
		{[]string{"a()"}, "a:any", false},
		{[]string{"zero(a:any)"}, "zero()", false},
		{[]string{"hash(xor(a:any, b:any))"}, "hash(xor(b:any, a:any))", false},
		{[]string{"hash(xor(a:any, b:any))", "hash(a:any)"}, "xor(hash(a:any), hash(xor(a:any, b:any)))", true},
		{[]string{"hash(a:any)", "hash(b:any)"}, "hash(xor(a:any, b:any))", false},
	} {
		var choice []int
		for i := range c.l {
			choice = append(choice, i)
		}
		if xor.Check(all(t, c.l...), must(t, c.t), choice) != c.want {
			t.Errorf("%v, %s: not %v", c.l, c.t, c.want)
		}
	}
}

// P8.1: the errors of Rank, Basis and Span, in their order; Check accepts
// nothing with such an error.
func TestSpanErrors(t *testing.T) {
	a := atom("a", api.SortAny)
	for what, c := range badLists() {
		if n, e := xor.Rank(c.l); e != c.want || n != 0 {
			t.Errorf("Rank, %s: %v, %v, not %v", what, n, e, c.want)
		}
		if b, e := xor.Basis(c.l); e != c.want || len(b) != 0 {
			t.Errorf("Basis, %s: %v, %v, not %v", what, b, e, c.want)
		}
		// Each of these could be in the span, and the last ones are not valid.
		for _, x := range []api.Term{app("zero"), a, {}, atom("", 0), sized("h", 401)} {
			if s, e := xor.Span(c.l, x); e != c.want || len(s) != 0 {
				t.Errorf("Span, %s, %v: %v, %v, not %v", what, x, s, e, c.want)
			}
			if xor.Check(c.l, x, nil) || xor.Check(c.l, x, []int{0}) {
				t.Errorf("Check, %s, %v: accepted", what, x)
			}
		}
	}
	for what, c := range invalid() {
		for _, l := range [][]api.Term{nil, {a}, many("a", 200)} {
			if s, e := xor.Span(l, c.t); e != c.want || len(s) != 0 {
				t.Errorf("Span, %s: %v, %v, not %v", what, s, e, c.want)
			}
			if xor.Check(l, c.t, nil) {
				t.Errorf("Check, %s: accepted", what)
			}
		}
		if xor.Check([]api.Term{c.t}, c.t, []int{0}) || xor.Check([]api.Term{c.t, c.t}, app("zero"), []int{0, 1}) || xor.Check([]api.Term{a, c.t}, a, []int{0}) {
			t.Errorf("Check, %s in the list: accepted", what)
		}
	}
}

// P8.1: lists of 200 terms are not too long.
func TestLongSpans(t *testing.T) {
	every := make([]int, 200)
	for i := range every {
		every[i] = i
	}
	l, a := chain(200), many("a", 201)
	ends := app("xor", a[0], a[200])
	if b, e := xor.Basis(l); e != api.OK || !slices.Equal(b, every) {
		t.Errorf("a chain: %v, %v", b, e)
	}
	if n, e := xor.Rank(l); e != api.OK || n != 200 {
		t.Errorf("a chain: %d, %v", n, e)
	}
	if s, e := xor.Span(l, ends); e != api.OK || !slices.Equal(s, every) || !xor.Check(l, ends, s) {
		t.Errorf("the ends of a chain: %v, %v", s, e)
	}
	if xor.Check(l, ends, every[:199]) || xor.Check(l, ends, every[1:]) {
		t.Error("a part of a chain: accepted")
	}
	if s, e := xor.Span(l, a[100]); e != api.ErrNotFound || len(s) != 0 {
		t.Errorf("a summand of a chain: %v, %v", s, e)
	}
	if xor.Check(append(l, app("zero")), ends, every) || !xor.Check(l[:199], app("zero"), nil) {
		t.Error("a chain of 201 terms: accepted, or one of 199: not accepted")
	}
	ring := append(chain(199), app("xor", a[0], a[199]))
	if b, e := xor.Basis(ring); e != api.OK || !slices.Equal(b, every[:199]) {
		t.Errorf("a ring: %v, %v", b, e)
	}
	if !xor.Check(ring, app("zero"), every) || !xor.Check(ring, app("zero"), nil) {
		t.Error("a ring: not accepted")
	}
	slices.Reverse(l)
	if s, e := xor.Span(l, ends); e != api.OK || !slices.Equal(s, every) {
		t.Errorf("the ends of a chain, backwards: %v, %v", s, e)
	}
	if n, e := xor.Rank(slices.Repeat([]api.Term{tree(many("a", 344))}, 200)); e != api.OK || n != 1 {
		t.Errorf("the same large term: %d, %v", n, e)
	}
}

// P8.1: lists with as many summands as can be are decided, too.
func TestLargeSpans(t *testing.T) {
	r := rand.New(rand.NewPCG(3, 4))
	pool := many("a", 1000)
	var mixed, apart []api.Term
	for i := range 200 {
		r.Shuffle(len(pool), func(i, k int) { pool[i], pool[k] = pool[k], pool[i] })
		mixed = append(mixed, tree(slices.Clone(pool[:344])))
		apart = append(apart, tree(many("abcdefgh"[i%8:i%8+1]+"xyzuvwrstqponmlkjihgfedcba"[i/8:i/8+1], 344)))
	}
	for _, l := range [][]api.Term{mixed, apart} {
		if n, e := xor.Rank(l); e != api.OK || n != 200 {
			t.Errorf("Rank: %d, %v", n, e)
		}
		// What is no summand of one element, but of the sum of two, is in the
		// span; a single summand is not.
		parts := refAll(l[7:9])
		x := tree(parts[:min(len(parts), 344)])
		if len(parts) > 344 {
			x = l[8]
		}
		s, e := xor.Span(l, x)
		if e != api.OK || !xor.Check(l, x, s) {
			t.Errorf("Span: %v, %v", s, e)
		}
		if s, e := xor.Span(l, parts[0]); e != api.ErrNotFound || len(s) != 0 {
			t.Errorf("Span: %v, %v", s, e)
		}
		if c, e := xor.Refute(l, parts[0]); e != api.OK || len(c) > 201 || !refSeparation(l[:3], parts[0], c) {
			t.Errorf("Refute: %v, %v", c, e)
		}
	}
}

// P8.1: Rank, Basis and Span do what the definitions say, and Check accepts
// what a choice is.
func TestSpanByDefinition(t *testing.T) {
	r := rand.New(rand.NewPCG(5, 6))
	in, out := 0, 0
	for k := range 4000 {
		l := randomSums(r, r.IntN(7), "abcdefg")
		x := randomSums(r, 1, "abcdefg")[0]
		if k%2 == 1 {
			l, x = randomTerms(r, 5, 4), randomTerm(r, 4)
		}
		b, e := xor.Basis(l)
		n, f := xor.Rank(l)
		if want := refBasis(l); e != api.OK || f != api.OK || !slices.Equal(b, want) || n != len(want) {
			t.Fatalf("%s: %v, %v, %d, %v, not %v", texts(l...), b, e, n, f, want)
		}
		choices := refChoices(l, x)
		s, e := xor.Span(l, x)
		if len(choices) == 0 {
			out++
			if e != api.ErrNotFound || len(s) != 0 {
				t.Fatalf("%s, %s: %v, %v", texts(l...), texts(x), s, e)
			}
		} else {
			in++
			if e != api.OK || !refCheck(l, x, s) {
				t.Fatalf("%s, %s: %v, %v", texts(l...), texts(x), s, e)
			}
		}
		for range 10 {
			var c []int
			for i := range l {
				if r.IntN(2) == 0 {
					c = append(c, i+r.IntN(8)/7)
				}
			}
			if xor.Check(l, x, c) != refCheck(l, x, c) {
				t.Fatalf("%s, %s, %v: not %v", texts(l...), texts(x), c, refCheck(l, x, c))
			}
		}
		for _, c := range choices {
			if !xor.Check(l, x, c) {
				t.Fatalf("%s, %s, %v: not accepted", texts(l...), texts(x), c)
			}
		}
	}
	if in < 500 || out < 500 {
		t.Errorf("%d and %d cases only", in, out)
	}
}

// P8.1: equal arguments give equal results; they do not change, nor does the
// memory behind them.
func TestSpanChangesNothing(t *testing.T) {
	l := append(make([]api.Term, 0, 9), all(t, "xor(f(b:any), f(a:any))", "xor(c:any, f(b:any), c:any)", "zero()", "xor(f(a:any), d:any)")...)
	x, y := must(t, "xor(d:any, xor(f(b:any)))"), must(t, "xor(d:any, c:any)")
	c := append(make([]int, 0, 9), 0, 3)
	r := append(make([]api.Term, 0, 9), all(t, "c:any", "d:any", "f(a:any)", "f(b:any)")...)
	before := show(l[:9]) + show(x) + show(y) + show(c[:9]) + show(r[:9])
	for range 3 {
		b, _ := xor.Basis(l)
		d, _ := xor.Basis(l)
		m, _ := xor.Rank(l)
		n, _ := xor.Rank(l)
		if !slices.Equal(b, d) || m != n || len(b) != 3 {
			t.Errorf("%v, %v, %d, %d", b, d, m, n)
		}
		b[0] = 5
		if d[0] != 0 {
			t.Error("bases share memory")
		}
		s, _ := xor.Span(l, x)
		u, _ := xor.Span(l, x)
		if !slices.Equal(s, u) || len(s) != 2 || !xor.Check(l, x, c) || xor.Check(l, y, c) {
			t.Errorf("%v, %v", s, u)
		}
		s[0] = 5
		if u[0] == 5 {
			t.Error("choices share memory")
		}
		if p, e := xor.Refute(l, y); e != api.OK || !xor.CheckRefute(l, y, p) || xor.CheckRefute(l, y, r) {
			t.Errorf("%v, %v", p, e)
		}
	}
	if show(l[:9])+show(x)+show(y)+show(c[:9])+show(r[:9]) != before {
		t.Error("an argument has changed")
	}
}
