package xor_test

import (
	"math/rand/v2"
	"slices"
	"testing"

	"sealring/api"
	"sealring/term"
	"sealring/xor"
)

// P8.1: the summands of terms, and their sums.
func TestParts(t *testing.T) {
	for _, c := range []struct {
		t, sum string
		parts  []string
	}{
		// the examples of the document
		{"xor(a:any, b:any, xor(b:any, c:any))", "xor(a:any, c:any)", []string{"a:any", "c:any"}},
		{"xor(a:any, a:any)", "zero()", nil},

		{"zero()", "zero()", nil},
		{"xor()", "zero()", nil},
		{"xor(zero())", "zero()", nil},
		{"xor(zero(), zero())", "zero()", nil},
		{"xor(xor(), zero(), xor(xor()))", "zero()", nil},
		{"a:any", "a:any", []string{"a:any"}},
		{"?x:key", "?x:key", []string{"?x:key"}},
		{"xor(a:any)", "a:any", []string{"a:any"}},
		{"xor(xor(xor(a:any)))", "a:any", []string{"a:any"}},
		{"xor(a:any, zero())", "a:any", []string{"a:any"}},
		{"xor(a:any, xor())", "a:any", []string{"a:any"}},
		{"xor(a:any, a:any, a:any)", "a:any", []string{"a:any"}},
		{"xor(a:any, xor(a:any, xor(a:any, a:any)))", "zero()", nil},
		{"xor(xor(a:any, b:any), xor(b:any, a:any))", "zero()", nil},
		{"xor(xor(a:any, a:any), a:any)", "a:any", []string{"a:any"}},
		{"xor(c:any, b:any, a:any)", "xor(a:any, b:any, c:any)", []string{"a:any", "b:any", "c:any"}},
		{"xor(hash(a:any), pair(a:any, a:any), b:any, ?z)", "xor(?z, b:any, hash(a:any), pair(a:any, a:any))", []string{"?z", "b:any", "hash(a:any)", "pair(a:any, a:any)"}},
		{"xor(g(b:any), f(c:any), h(a:any))", "xor(f(c:any), g(b:any), h(a:any))", []string{"f(c:any)", "g(b:any)", "h(a:any)"}},
		{"xor(a:any, b:any, a:any, c:any, b:any, a:any)", "xor(a:any, c:any)", []string{"a:any", "c:any"}},
		{"xor(a:any, xor(b:any, xor(c:any, xor(d:any, b:any))))", "xor(a:any, c:any, d:any)", []string{"a:any", "c:any", "d:any"}},
	} {
		x := must(t, c.t)
		if l, e := xor.Parts(x); e != api.OK || !sameTerms(l, all(t, c.parts...)) {
			t.Errorf("Parts(%s): %s, %v", c.t, texts(l...), e)
		}
		if u, e := xor.Sum([]api.Term{x}); e != api.OK || texts(u) != c.sum {
			t.Errorf("Sum(%s): %s, %v", c.t, texts(u), e)
		}
	}
}

// P8.1: what is no sum stays as it is, whatever is inside of it, and is told
// apart as a term.
func TestSummands(t *testing.T) {
	for _, c := range []struct{ t, want string }{
		{"hash(xor(a:any, a:any))", "hash(xor(a:any, a:any))"},
		{"hash(xor(b:any, zero(), a:any))", "hash(xor(b:any, zero(), a:any))"},
		{"zero(a:any)", "zero(a:any)"},
		{"zero(zero())", "zero(zero())"},
		{"zero(xor(a:any, a:any), xor())", "zero(xor(a:any, a:any), xor())"},
		{"xor(zero(a:any), zero())", "zero(a:any)"},
		{"xor(zero(a:any), a:any)", "xor(a:any, zero(a:any))"},
		{"xor(a:any, hash(xor(a:any, b:any)), b:any)", "xor(a:any, b:any, hash(xor(a:any, b:any)))"},
		{"xor(hash(xor(a:any, b:any)), hash(xor(b:any, a:any)))", "xor(hash(xor(a:any, b:any)), hash(xor(b:any, a:any)))"},
		{"xor(hash(xor(a:any, b:any)), hash(xor(a:any, b:any)))", "zero()"},
		{"xor(hash(zero()), hash(xor()))", "xor(hash(xor()), hash(zero()))"},
		{"xor(a:any, a:nonce, ?a, ?a:nonce, a())", "xor(?a, ?a:nonce, a:any, a:nonce, a())"},
		{"xor(a:any, A:any)", "xor(A:any, a:any)"},
		{"xor(xor:any, ?xor, zero:any, ?zero, xor:any)", "xor(?xor, ?zero, zero:any)"},
		{"xor:any", "xor:any"},
		{"zero:any", "zero:any"},
		{"?xor", "?xor"},
		{"?zero:nonce", "?zero:nonce"},
		{"Xor(a:any, a:any)", "Xor(a:any, a:any)"},
		{"xors(b:any, a:any)", "xors(b:any, a:any)"},
		{"xor(Zero(), one(), zeros())", "xor(Zero(), one(), zeros())"},
		{"mul(a:any, a:any)", "mul(a:any, a:any)"},
		{"xor(f(a:any, b:any), f(b:any, a:any))", "xor(f(a:any, b:any), f(b:any, a:any))"},
		{"xor(f(a:any), f(), f(a:any, a:any))", "xor(f(), f(a:any), f(a:any, a:any))"},
	} {
		if x := sumOf(t, must(t, c.t)); texts(x) != c.want {
			t.Errorf("%s: %s", c.t, texts(x))
		}
	}
}

// P8.1: the sums of lists.
func TestSum(t *testing.T) {
	for _, c := range []struct{ l, want string }{
		{"", "0"}, {"0", "0"}, {"0 0", "0"}, {"a", "a"}, {"a a", "0"}, {"a a a", "a"}, {"a 0", "a"},
		{"b a", "ab"}, {"a b bc", "ac"}, {"ab bc ca", "0"}, {"ab bc cd", "ad"}, {"abc bc", "a"}, {"abc abd", "cd"},
		{"h g f e d c b a", "abcdefgh"}, {"abcdefgh a", "bcdefgh"}, {"abcdefgh abcdefgh", "0"}, {"abcdefgh abcdefgi", "hi"}, {"abcdefgh efghijkl", "abcdijkl"},
	} {
		if x := sumOf(t, letters(c.l)...); !same(x, letter(c.want)) {
			t.Errorf("%s: %s, not %s", c.l, texts(x), c.want)
		}
	}
	for _, c := range []struct{ a, b, want string }{
		{"0", "0", "0"}, {"a", "0", "a"}, {"0", "a", "a"}, {"a", "b", "ab"}, {"b", "a", "ab"}, {"a", "a", "0"}, {"ab", "ba", "0"}, {"ab", "bc", "ac"}, {"ab", "a", "b"}, {"a", "abc", "bc"},
	} {
		if x, e := xor.Add(letter(c.a), letter(c.b)); e != api.OK || !same(x, letter(c.want)) {
			t.Errorf("%s, %s: %s, %v, not %s", c.a, c.b, texts(x), e, c.want)
		}
	}
}

// P8.1: a term may have many summands, in any of its sums; only their sum has
// at most 8, and is valid.
func TestManySummands(t *testing.T) {
	a := many("a", 344)
	backwards := slices.Clone(a)
	slices.Reverse(backwards)
	for _, x := range []api.Term{tree(a), tree(backwards)} {
		if l := partsOf(t, x); !sameTerms(l, a) {
			t.Errorf("344 summands: %s", texts(l...))
		}
		if y, e := xor.Sum([]api.Term{x}); e != api.ErrTooLarge || !same(y, api.Term{}) {
			t.Errorf("344 summands: %s, %v", texts(y), e)
		}
	}
	x, e := xor.Add(tree(a), tree(backwards[3:]))
	if e != api.OK || !same(x, app("xor", a[341:]...)) {
		t.Errorf("3 summands of 685: %s, %v", texts(x), e)
	}
	x, e = xor.Sum(slices.Repeat([]api.Term{tree(a)}, 200))
	if e != api.OK || !same(x, app("zero")) {
		t.Errorf("200 terms that cancel: %s, %v", texts(x), e)
	}
	x = sumOf(t, append(slices.Repeat([]api.Term{sized("h", 400)}, 199), app("zero"))...)
	if !same(x, sized("h", 400)) {
		t.Errorf("a term 199 times: %s", texts(x))
	}
	if l := partsOf(t, tower(40, "xor", a[0])); !sameTerms(l, a[:1]) {
		t.Errorf("40 levels: %s", texts(l...))
	}
	for _, n := range []int{8, 9, 200} {
		x, e := xor.Sum(a[:n])
		if n == 8 && (e != api.OK || !same(x, app("xor", a[:8]...))) || n > 8 && (e != api.ErrTooLarge || !same(x, api.Term{})) {
			t.Errorf("%d summands: %s, %v", n, texts(x), e)
		}
	}
}

// P8.1: the errors of Sum and Add for terms that would not be valid.
func TestSumTooLarge(t *testing.T) {
	a := atom("a", api.SortAny)
	for what, c := range map[string]struct {
		a, b api.Term
		want api.Errno
	}{
		"400 nodes":           {app("zero"), sized("h", 400), api.OK},
		"400 nodes, in xor":   {sized("g", 199), sized("h", 200), api.OK},
		"401 nodes, in xor":   {sized("g", 200), sized("h", 200), api.ErrTooLarge},
		"402 nodes and a sum": {app("xor", a, sized("h", 398)), sized("g", 2), api.ErrTooLarge},
		"400 nodes and a sum": {app("xor", a, sized("h", 398)), a, api.OK},
		"40 levels":           {app("zero"), tower(40, "g", a), api.OK},
		"40 levels, in xor":   {a, tower(39, "g", a), api.OK},
		"41 levels, in xor":   {a, tower(40, "g", a), api.ErrTooLarge},
		"41 levels at first":  {tower(40, "g", a), a, api.ErrTooLarge},
		"41 levels, twice":    {tower(40, "g", a), tower(40, "g", a), api.OK},
		"8 summands":          {letter("abcd"), letter("efgh"), api.OK},
		"9 summands":          {letter("abcde"), letter("fghi"), api.ErrTooLarge},
		"7 of 9 summands":     {letter("abcde"), letter("efgh"), api.OK},
		"16 summands":         {letter("abcdefgh"), letter("ijklmnop"), api.ErrTooLarge},
	} {
		x, e := xor.Add(c.a, c.b)
		if e != c.want || (e == api.OK) != (term.Valid(x) == api.OK) || e != api.OK && !same(x, api.Term{}) {
			t.Errorf("Add, %s: %s, %v, not %v", what, show(x), e, c.want)
		}
		y, f := xor.Sum([]api.Term{c.a, app("zero"), c.b})
		if f != c.want || !same(x, y) {
			t.Errorf("Sum, %s: %s, %v, not %v", what, show(y), f, c.want)
		}
	}
}

// P8.1: terms that are not valid have no summands and no sum, even if they
// would cancel.
func TestSumErrors(t *testing.T) {
	a := atom("a", api.SortAny)
	for what, c := range invalid() {
		if l, e := xor.Parts(c.t); e != c.want || len(l) != 0 {
			t.Errorf("Parts, %s: %v, %v, not %v", what, l, e, c.want)
		}
		if x, e := xor.Add(c.t, a); e != c.want || !same(x, api.Term{}) {
			t.Errorf("Add, %s at the left: %v, %v, not %v", what, x, e, c.want)
		}
		if x, e := xor.Add(a, c.t); e != c.want || !same(x, api.Term{}) {
			t.Errorf("Add, %s at the right: %v, %v, not %v", what, x, e, c.want)
		}
		for other, d := range invalid() {
			if x, e := xor.Add(c.t, d.t); e != c.want || !same(x, api.Term{}) {
				t.Errorf("Add, %s, %s: %v, %v, not %v", what, other, x, e, c.want)
			}
		}
	}
	for what, c := range badLists() {
		if x, e := xor.Sum(c.l); e != c.want || !same(x, api.Term{}) {
			t.Errorf("Sum, %s: %v, %v, not %v", what, x, e, c.want)
		}
	}
	if x, e := xor.Sum(append(many("a", 9), atom("", 0))); e != api.ErrSyntax || !same(x, api.Term{}) {
		t.Errorf("an error behind 9 summands: %v, %v", x, e)
	}
}

// P8.1: Parts, Sum and Add do what the definitions say.
func TestSumByDefinition(t *testing.T) {
	r := rand.New(rand.NewPCG(1, 2))
	found := map[api.Errno]int{}
	for range 20000 {
		x, y, l := randomTerm(r, 5), randomTerm(r, 5), randomTerms(r, 4, 4)
		if p, e := xor.Parts(x); e != api.OK || !sameTerms(p, refParts(x)) {
			t.Fatalf("Parts(%s): %s, %v", texts(x), texts(p...), e)
		}
		for _, c := range [][]api.Term{{x, y}, l} {
			want, right := refSum(c)
			s, e := xor.Sum(c)
			if e != right || !same(s, want) {
				t.Fatalf("Sum(%s): %s, %v, not %s, %v", texts(c...), texts(s), e, texts(want), right)
			}
			if len(c) == 2 {
				s, e = xor.Add(c[0], c[1])
			}
			if e != right || !same(s, want) {
				t.Fatalf("Add(%s): %s, %v, not %s, %v", texts(c...), texts(s), e, texts(want), right)
			}
			found[e]++
		}
	}
	if found[api.OK] < 1000 || found[api.ErrTooLarge] < 20 {
		t.Errorf("too few cases: %v", found)
	}
}

// P8.1: equal arguments give equal results that share no memory with one
// another, within themselves, or with the arguments, which do not change.
func TestSumSharesNothing(t *testing.T) {
	twice := app("pair", must(t, "hash(a:any)"), atom("b", 0))
	x := app("xor", must(t, "f(g(c:any))"), app("xor", twice, atom("d", 0)), app("hash", twice), must(t, "f(g(b:any))"), twice, twice)
	y := app("xor", app("h", twice), must(t, "f(g(b:any))"))
	before := show(x) + show(y)
	l, m := partsOf(t, x), partsOf(t, x)
	if len(l) != 5 || show(l) != show(m) {
		t.Errorf("Parts: %v, %v", l, m)
	}
	apartLists(t, "Parts", l, m)
	for _, p := range arrays(append(slices.Concat(l, m), l[0], m[0])...) {
		if slices.Contains(arrays(x, y), p) {
			t.Error("Parts: memory of the argument")
		}
	}
	args := append(make([]api.Term, 0, 5), x, y)
	for _, sum := range []func() (api.Term, api.Errno){
		func() (api.Term, api.Errno) { return xor.Add(x, y) },
		func() (api.Term, api.Errno) { return xor.Sum(args) },
		func() (api.Term, api.Errno) { return xor.Sum([]api.Term{twice}) },
		func() (api.Term, api.Errno) { return xor.Add(app("hash", twice), app("zero")) },
	} {
		a, e := sum()
		b, f := sum()
		if e != api.OK || f != api.OK || show(a) != show(b) {
			t.Errorf("%v, %v, %v, %v", a, e, b, f)
		}
		apart(t, "Sum", a, b)
		for _, p := range arrays(a, b) {
			if slices.Contains(arrays(api.Term{Kids: args}, twice), p) {
				t.Error("Sum: memory of the arguments")
			}
		}
	}
	if show(x)+show(y) != before || show(args[:5][2:]) != show(make([]api.Term, 3)) {
		t.Error("an argument has changed")
	}
}
