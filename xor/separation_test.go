package xor_test

import (
	"math/rand/v2"
	"slices"
	"testing"

	"sealring/api"
	"sealring/term"
	"sealring/xor"
)

// P8.1: Refute returns a separation that CheckRefute accepts for what is not in
// the span, with at most one term more than the list, and an error for what is.
func TestRefute(t *testing.T) {
	for _, c := range spans {
		l := letters(c.l)
		for _, x := range letters(c.out) {
			if r, e := xor.Refute(l, x); e != api.OK || len(r) > len(l)+1 || !refCheckRefute(l, x, r) || !xor.CheckRefute(l, x, r) {
				t.Errorf("%s, %s: %s, %v", c.l, texts(x), texts(r...), e)
			}
		}
		for _, x := range letters(c.in) {
			if r, e := xor.Refute(l, x); e != api.ErrExists || len(r) != 0 {
				t.Errorf("%s, %s: %s, %v", c.l, texts(x), texts(r...), e)
			}
		}
	}
	// Where there is only one separation that may be returned, it is.
	for _, c := range []struct{ l, t, want string }{
		{"ab bc", "a", "a b c"}, {"", "a", "a"}, {"0", "a", "a"}, {"a", "b", "b"}, {"a", "ab", "b"}, {"a b c", "abcd", "d"}, {"ab a", "c", "c"},
	} {
		if r, e := xor.Refute(letters(c.l), letter(c.t)); e != api.OK || !sameTerms(r, letters(c.want)) {
			t.Errorf("%s, %s: %s, %v", c.l, c.t, texts(r...), e)
		}
	}
}

// P8.1: CheckRefute accepts all separations, and nothing else.
func TestCheckRefute(t *testing.T) {
	for what, c := range map[string]struct {
		l, t, r string
		want    bool
	}{
		// the example of the document
		"three":               {"ab bc", "a", "a b c", true},
		"three, but the span": {"ab bc", "ac", "a b c", false},

		"nothing":                     {"ab bc", "a", "", false},
		"nothing, of nothing":         {"", "a", "", false},
		"nothing, and zero":           {"", "0", "", false},
		"zero":                        {"a", "0", "a", false},
		"one of an element":           {"ab bc", "a", "a", false},
		"one of the last element":     {"ab bc", "a", "a b", false},
		"only one of the first":       {"ab bc", "c", "b c", false},
		"none of the term":            {"ab bc", "a", "d", false},
		"an even number of the term":  {"ab bc", "ab", "a b c", false},
		"three of the term":           {"ab bc", "abc", "a b c", true},
		"one of the term":             {"ab cd", "ac", "a b", true},
		"others beside":               {"ab bc", "a", "a b c x y z", true},
		"others between":              {"ab bd", "a", "a b c d", true},
		"others, but not of elements": {"ab bc x", "a", "a b c x", false},
		"an odd number of others":     {"abx bc", "a", "a b c x", false},
		"of no elements":              {"", "a", "a", true},
		"of no elements, two":         {"", "ab", "b", true},
		"of zero":                     {"0 0", "a", "a", true},
		"not ascending":               {"ab bc", "a", "b a c", false},
		"descending at last":          {"ab bc", "a", "a c b", false},
		"twice":                       {"", "a", "a a", false},
		"three times":                 {"", "a", "a a a", false},
		"twice at last":               {"ab", "a", "a b c c", false},
		"descending others":           {"ab", "a", "a b z y", false},
		"an element as a term":        {"ab", "a", "a b ab", true},
		"only an element as a term":   {"ab", "a", "ab", false},
		"the term as a term":          {"cd", "ab", "ab", false},
		"the term, and zero":          {"cd", "ab", "a 0", true},
	} {
		l, x, r := letters(c.l), letter(c.t), letters(c.r)
		if xor.CheckRefute(l, x, r) != c.want || refCheckRefute(l, x, r) != c.want {
			t.Errorf("%s: not %v", what, c.want)
		}
	}
	for _, c := range []struct {
		l    []string
		t    string
		r    []string
		want bool
	}{
		{nil, "xor(a:any, a:any, b:any)", []string{"a:any"}, false},
		{nil, "xor(a:any, a:any, a:any)", []string{"a:any"}, true},
		{[]string{"xor(a:any, xor(b:any, a:any))"}, "a:any", []string{"a:any"}, true},
		{[]string{"xor(a:any, xor(b:any, a:any))"}, "a:any", []string{"a:any", "b:any"}, false},
		{nil, "a:any", []string{"a:nonce"}, false},
		{nil, "a:nonce", []string{"a:any", "a:nonce"}, true},
		{[]string{"?a", "a:nonce", "a()"}, "a:any", []string{"a:any"}, true},
		{nil, "hash(a:any)", []string{"a:any"}, false},
		{[]string{"a:any", "hash(b:any)"}, "hash(a:any)", []string{"hash(a:any)"}, true},
		{nil, "hash(xor(a:any, b:any))", []string{"a:any"}, false},
		{nil, "hash(xor(a:any, b:any))", []string{"hash(xor(a:any, b:any))"}, true},
		{[]string{"hash(xor(b:any, a:any))"}, "hash(xor(a:any, b:any))", []string{"hash(xor(a:any, b:any))"}, true},
		{nil, "zero(a:any)", []string{"zero(a:any)"}, true},
		{nil, "zero()", []string{"zero()"}, false},
		{nil, "xor()", []string{"xor()"}, false},
		{nil, "xor(a:any)", []string{"xor(a:any)"}, false},
		{nil, "xor(a:any)", []string{"a:any"}, true},
	} {
		l, x, r := all(t, c.l...), must(t, c.t), all(t, c.r...)
		if xor.CheckRefute(l, x, r) != c.want || refCheckRefute(l, x, r) != c.want {
			t.Errorf("%v, %s, %v: not %v", c.l, c.t, c.r, c.want)
		}
	}
}

// P8.1: the terms of a separation need not be valid, but they ascend.
func TestCheckRefuteInvalidSeparations(t *testing.T) {
	l, x := letters("bc"), letter("a")
	for what, c := range invalid() {
		r := []api.Term{letter("a"), c.t}
		slices.SortFunc(r, term.Compare)
		if !xor.CheckRefute(l, x, r) || !xor.CheckRefute(nil, x, r) {
			t.Errorf("%s: not accepted", what)
		}
		if xor.CheckRefute(l, x, []api.Term{c.t}) || xor.CheckRefute(l, x, []api.Term{c.t, c.t}) {
			t.Errorf("%s alone: accepted", what)
		}
		slices.Reverse(r)
		if xor.CheckRefute(l, x, r) {
			t.Errorf("%s, descending: accepted", what)
		}
	}
	a := many("a", 201)
	if !xor.CheckRefute(nil, a[7], a[:200]) || !xor.CheckRefute(l, a[0], a[:200]) {
		t.Error("200 terms: not accepted")
	}
	if xor.CheckRefute(nil, a[7], a) || xor.CheckRefute(l, a[0], a) {
		t.Error("201 terms: accepted")
	}
}

// P8.1: the errors of Refute, in their order; CheckRefute accepts nothing with
// such an error.
func TestRefuteErrors(t *testing.T) {
	a, b := atom("a", api.SortAny), atom("b", api.SortAny)
	for what, c := range badLists() {
		for _, x := range []api.Term{app("zero"), b, {}, atom("", 0), sized("h", 401)} {
			if r, e := xor.Refute(c.l, x); e != c.want || len(r) != 0 {
				t.Errorf("Refute, %s, %v: %v, %v, not %v", what, x, r, e, c.want)
			}
			if xor.CheckRefute(c.l, x, []api.Term{b}) || xor.CheckRefute(c.l, x, []api.Term{x}) {
				t.Errorf("CheckRefute, %s, %v: accepted", what, x)
			}
		}
	}
	for what, c := range invalid() {
		for _, l := range [][]api.Term{nil, {a}, many("a", 200)} {
			if r, e := xor.Refute(l, c.t); e != c.want || len(r) != 0 {
				t.Errorf("Refute, %s: %v, %v, not %v", what, r, e, c.want)
			}
			if xor.CheckRefute(l, c.t, []api.Term{c.t}) || xor.CheckRefute(l, app("xor", b, c.t), []api.Term{b}) {
				t.Errorf("CheckRefute, %s: accepted", what)
			}
		}
		if xor.CheckRefute([]api.Term{c.t}, b, []api.Term{b}) || xor.CheckRefute([]api.Term{a, c.t}, b, []api.Term{b}) {
			t.Errorf("CheckRefute, %s in the list: accepted", what)
		}
	}
}

// P8.1: lists of 200 terms are not too long, but a separation may be.
func TestLongSeparations(t *testing.T) {
	a := many("a", 202)
	for _, n := range []int{1, 198, 199, 200} {
		l := chain(n)
		r, e := xor.Refute(l, a[n/2])
		if e != api.OK || !sameTerms(r, a[:n+1]) || !refSeparation(l, a[n/2], r) {
			t.Errorf("a chain of %d: %s, %v", n, texts(r...), e)
		}
		if xor.CheckRefute(l, a[n/2], r) != (n < 200) {
			t.Errorf("a chain of %d: not %v", n, n < 200)
		}
		if r, e := xor.Refute(l, app("xor", a[0], a[n])); e != api.ErrExists || len(r) != 0 {
			t.Errorf("the ends of a chain of %d: %s, %v", n, texts(r...), e)
		}
		r, e = xor.Refute(l, a[201])
		if e != api.OK || !sameTerms(r, a[201:]) || !xor.CheckRefute(l, a[201], r) {
			t.Errorf("beside a chain of %d: %s, %v", n, texts(r...), e)
		}
	}
	l := append(slices.Repeat(letters("ab"), 150), slices.Repeat(letters("0 bc"), 25)...)
	if r, e := xor.Refute(l, letter("b")); e != api.OK || !sameTerms(r, letters("a b c")) || !xor.CheckRefute(l, letter("b"), r) {
		t.Errorf("many equal terms: %s, %v", texts(r...), e)
	}
	if xor.CheckRefute(append(l, app("zero")), letter("b"), letters("a b c")) {
		t.Error("201 terms: accepted")
	}
}

// P8.1: CheckRefute does what the definition says, for separations and for
// others.
func TestCheckRefuteByDefinition(t *testing.T) {
	r := rand.New(rand.NewPCG(7, 8))
	accepted := 0
	for k := range 30000 {
		l, x := randomSums(r, r.IntN(4), "abcde"), randomSums(r, 1, "abcde")[0]
		if k%2 == 1 {
			l, x = randomTerms(r, 2, 4), randomTerm(r, 4)
		}
		var c []api.Term
		for _, s := range append(refParts(x), refAll(l)...) {
			if r.IntN(3) > 0 {
				c = append(c, s)
			}
		}
		if r.IntN(8) > 0 {
			slices.SortFunc(c, term.Compare)
			c = slices.CompactFunc(c, same)
		}
		want := refCheckRefute(l, x, c)
		if xor.CheckRefute(l, x, c) != want {
			t.Fatalf("%s, %s, %s: not %v", texts(l...), texts(x), texts(c...), want)
		}
		if want {
			accepted++
		}
	}
	if accepted < 1000 {
		t.Errorf("%d cases only", accepted)
	}
}

// P8.1: equal arguments give equal results that share no memory with one
// another, within themselves, or with the arguments.
func TestRefuteSharesNothing(t *testing.T) {
	l := all(t, "xor(f(g(a:any)), f(g(b:any)))", "xor(f(g(b:any)), f(g(c:any)))", "f(g(d:any))")
	x := must(t, "xor(f(g(a:any)), f(g(d:any)))")
	r, e := xor.Refute(l, x)
	s, f := xor.Refute(l, x)
	if e != api.OK || f != api.OK || !sameTerms(r, s) || texts(r...) != "f(g(a:any)); f(g(b:any)); f(g(c:any))" {
		t.Errorf("%s, %v, %s, %v", texts(r...), e, texts(s...), f)
	}
	apartLists(t, "Refute", r, s, l, []api.Term{x})
}
