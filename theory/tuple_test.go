package theory_test

import (
	"slices"
	"testing"

	"sealring/api"
	"sealring/theory"
)

// P9.1: what opens a term.
func TestKey(t *testing.T) {
	for _, c := range []struct {
		t, want string
		e       api.Errno
	}{
		{"enc(a:any, k:key)", "k:key", api.OK},
		{"enc(a:any, pk(sk(b:agent)))", "pk(sk(b:agent))", api.OK},
		{"enc(a:any, fst(pair(k:key, b:any)))", "fst(pair(k:key, b:any))", api.OK},
		{"enc(aenc(a:any, ?x), ?y)", "?y", api.OK},
		{"aenc(a:any, pk(sk(b:agent)))", "sk(b:agent)", api.OK},
		{"aenc(a:any, pk(pk(k:key)))", "pk(k:key)", api.OK},
		{"aenc(a:any, pk(?x))", "?x", api.OK},
		{"aenc(a:any, ?x)", "", api.ErrNotFound},
		{"aenc(a:any, pk:key)", "", api.ErrNotFound},
		{"aenc(a:any, ?pk)", "", api.ErrNotFound},
		{"aenc(a:any, sk(b:agent))", "", api.ErrNotFound},
		{"aenc(pk(a:any), hash(pk(a:any)))", "", api.ErrNotFound},
		{"aenc(a:any, fst(pair(pk(a:any), b:any)))", "", api.ErrNotFound},
		{"sign(a:any, k:key)", "", api.ErrType},
		{"pair(enc(a:any, k:key), k:key)", "", api.ErrType},
		{"dec(enc(a:any, k:key), k:key)", "", api.ErrType},
		{"fst(pair(enc(a:any, k:key), b:any))", "", api.ErrType},
		{"a:any", "", api.ErrType},
		{"enc:any", "", api.ErrType},
		{"?aenc", "", api.ErrType},
		{"enc(a:any)", "", api.ErrArity},
		{"aenc(a:any, pk(a:any, b:any))", "", api.ErrArity},
		{"aenc(f(a:any), ?x)", "", api.ErrType},
		{"aenc(pair(a:any), ?x)", "", api.ErrArity},
	} {
		x := must(t, c.t)
		k, e := theory.Key(x)
		switch {
		case e != c.e:
			t.Errorf("%s: %v, not %v", c.t, e, c.e)
		case e != api.OK && !isZero(k) || e == api.OK && text(k) != c.want:
			t.Errorf("%s: %s", c.t, text(k))
		}
		apart(t, "Key", x, k)
	}
}

// P9.1: tuples are pairs to the right.
func TestTuple(t *testing.T) {
	for _, c := range []struct {
		l    []string
		want string
	}{
		{[]string{"a:any"}, "a:any"},
		{[]string{"pair(a:any, b:any)"}, "pair(a:any, b:any)"},
		{[]string{"a:any", "b:any"}, "pair(a:any, b:any)"},
		{[]string{"a:any", "a:any", "?x"}, "pair(a:any, pair(a:any, ?x))"},
		{[]string{"a:any", "pair(b:any, c:any)"}, "pair(a:any, pair(b:any, c:any))"},
		{[]string{"pair(a:any, b:any)", "c:any"}, "pair(pair(a:any, b:any), c:any)"},
		{[]string{"d:any", "xor(b:any, a:any)", "fst(a:any)", "one()"}, "pair(d:any, pair(xor(b:any, a:any), pair(fst(a:any), one())))"},
	} {
		l := all(t, c.l...)
		x, e := theory.Tuple(l)
		if e != api.OK || text(x) != c.want {
			t.Errorf("%v: %s, %v", c.l, text(x), e)
		}
		apart(t, "Tuple", x, api.Term{Kids: l})
	}
	shared := must(t, "hash(pair(a:any, b:any))")
	x, e := theory.Tuple(slices.Repeat([]api.Term{shared}, 5))
	if e != api.OK || !sameTerms(theory.Untuple(x), slices.Repeat([]api.Term{shared}, 5)) {
		t.Errorf("%s, %v", text(x), e)
	}
	apart(t, "Tuple", x, shared)
}

// P9.1: the errors of tuples.
func TestTupleErrors(t *testing.T) {
	a, f, empty := atom("a", api.SortAny), app("f"), atom("", api.SortAny)
	nine := app("xor", slices.Repeat([]api.Term{a}, 9)...)
	many := func(n int, l ...api.Term) []api.Term { return append(slices.Repeat([]api.Term{a}, n), l...) }
	for what, c := range map[string]struct {
		l    []api.Term
		want api.Errno
	}{
		"nil":                        {nil, api.ErrEmpty},
		"empty":                      {[]api.Term{}, api.ErrEmpty},
		"zero term":                  {[]api.Term{{}}, api.ErrInvalid},
		"symbol":                     {[]api.Term{a, f}, api.ErrType},
		"number":                     {[]api.Term{app("hash"), f}, api.ErrArity},
		"first of two":               {[]api.Term{f, app("hash")}, api.ErrType},
		"term before symbols":        {[]api.Term{f, app("hash"), empty}, api.ErrSyntax},
		"40 terms":                   {many(40), api.OK},
		"41 terms":                   {many(41), api.ErrTooLarge},
		"41 terms, a symbol":         {many(40, f), api.ErrTooLarge},
		"41 terms, a name":           {many(40, empty), api.ErrSyntax},
		"size":                       {[]api.Term{sized(200), sized(199)}, api.OK},
		"size, one more":             {[]api.Term{sized(200), sized(200)}, api.ErrTooLarge},
		"size, then a kind":          {[]api.Term{sized(401), {}}, api.ErrInvalid},
		"depth":                      {[]api.Term{a, tower(39, "hash", a)}, api.OK},
		"depth, one more":            {[]api.Term{a, tower(40, "hash", a)}, api.ErrTooLarge},
		"depth, first of three":      {[]api.Term{tower(39, "hash", a), a, a}, api.OK},
		"depth, last of three":       {[]api.Term{a, a, tower(39, "hash", a)}, api.ErrTooLarge},
		"40 terms, depth":            {many(39, app("hash", a)), api.ErrTooLarge},
		"200 terms":                  {many(200), api.ErrTooLarge},
		"201 terms":                  {many(201), api.ErrTooLarge},
		"201 terms, a symbol":        {many(200, f), api.ErrTooLarge},
		"201 terms, a name":          {many(200, empty, api.Term{}), api.ErrSyntax},
		"201 terms, a kind":          {append([]api.Term{a, {}, empty}, many(200)...), api.ErrInvalid},
		"201 terms, 9 kids":          {append([]api.Term{a, nine, empty}, many(200)...), api.ErrTooLarge},
		"201 terms, a kind before":   {append([]api.Term{empty, nine}, many(200)...), api.ErrSyntax},
		"201 terms, size, then name": {append([]api.Term{sized(401), empty}, many(200)...), api.ErrSyntax},
		"a million terms":            {many(1000000), api.ErrTooLarge},
		"a million terms, a kind":    {many(1000000, api.Term{}), api.ErrInvalid},
	} {
		x, e := theory.Tuple(c.l)
		if e != c.want || e != api.OK && !isZero(x) {
			t.Errorf("%s: %s, %v, not %v", what, text(x), e, c.want)
		}
	}
}

// P9.1: a tuple has as many terms as possible.
func TestUntuple(t *testing.T) {
	for _, c := range []struct {
		t    string
		want []string
	}{
		{"a:any", []string{"a:any"}},
		{"?pair", []string{"?pair"}},
		{"pair:any", []string{"pair:any"}},
		{"pair(a:any, b:any)", []string{"a:any", "b:any"}},
		{"pair(a:any, pair(b:any, c:any))", []string{"a:any", "b:any", "c:any"}},
		{"pair(pair(a:any, b:any), c:any)", []string{"pair(a:any, b:any)", "c:any"}},
		{"pair(a:any, pair(pair(b:any, c:any), pair(d:any, a:any)))", []string{"a:any", "pair(b:any, c:any)", "d:any", "a:any"}},
		{"pair(a:any, hash(pair(b:any, c:any)))", []string{"a:any", "hash(pair(b:any, c:any))"}},
		{"pair(a:any, fst(pair(pair(b:any, c:any), d:any)))", []string{"a:any", "fst(pair(pair(b:any, c:any), d:any))"}},
		{"enc(a:any, b:any)", []string{"enc(a:any, b:any)"}},

		// not valid in the theory
		{"f(a:any)", []string{"f(a:any)"}},
		{"pair()", []string{"pair()"}},
		{"pair(a:any)", []string{"pair(a:any)"}},
		{"pair(a:any, b:any, c:any)", []string{"pair(a:any, b:any, c:any)"}},
		{"pair(a:any, pair(b:any))", []string{"a:any", "pair(b:any)"}},
		{"pair(f(), pair(a:any, pair(b:any, c:any, d:any)))", []string{"f()", "a:any", "pair(b:any, c:any, d:any)"}},
	} {
		x := must(t, c.t)
		l := theory.Untuple(x)
		if !sameTerms(l, all(t, c.want...)) {
			t.Errorf("%s: %s", c.t, texts(l))
		}
		apart(t, "Untuple", x, api.Term{Kids: l})
	}
}

// P9.1: Untuple accepts any terms.
func TestUntupleOfInvalidTerms(t *testing.T) {
	a := atom("a", api.SortAny)
	odd := api.Term{Kind: api.TermVar, Name: "pair", Kids: []api.Term{a, a}}
	for what, c := range map[string]struct {
		t    api.Term
		want []api.Term
	}{
		"zero term":       {api.Term{}, []api.Term{{}}},
		"parts":           {app("pair", api.Term{Sort: 7}, api.Term{Kind: 9}), []api.Term{{Sort: 7}, {Kind: 9}}},
		"another kind":    {odd, []api.Term{odd}},
		"kind further on": {app("pair", odd, odd), []api.Term{odd, odd}},
		"large part":      {app("pair", a, sized(1000)), []api.Term{a, sized(1000)}},
		"deep part":       {app("pair", tower(1000, "hash", a), a), []api.Term{tower(1000, "hash", a), a}},
	} {
		if l := theory.Untuple(c.t); !sameTerms(l, c.want) {
			t.Errorf("%s: %s", what, texts(l))
		}
	}
	long := a
	for range 10000 {
		long = app("pair", a, long)
	}
	if l := theory.Untuple(long); !sameTerms(l, slices.Repeat([]api.Term{a}, 10001)) {
		t.Errorf("a long tuple: %d terms", len(l))
	}
}
