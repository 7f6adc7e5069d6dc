package subst_test

import (
	"testing"

	"sealring/api"
	"sealring/subst"
)

// P2.1: Valid accepts what is valid, up to the limits.
func TestValid(t *testing.T) {
	a := atom("a", api.SortAny)
	for what, s := range map[string][]api.Binding{
		"nil":                              nil,
		"empty":                            {},
		"one":                              binds(t, "?x", "f(?y, a:any)"),
		"any term for SortAny":             binds(t, "?a", "a:any", "?b", "n:nonce", "?c", "?n:nonce", "?d", "?x", "?e", "f()"),
		"same names, other sorts":          binds(t, "?x", "?x:agent", "?x:agent", "?y:agent", "?x:nonce", "x:nonce"),
		"its own variable in a term":       binds(t, "?x", "f(?x)"),
		"variables of one another":         binds(t, "?x", "?y", "?y", "?x"),
		"order by name before sort":        binds(t, "?x:tag", "a:tag", "?y", "a:any"),
		"200 bindings":                     many("x", 200, a),
		"40 levels":                        {bind(variable("x", api.SortAny), tower(40, a))},
		"400 nodes":                        {bind(variable("x", api.SortAny), app("f", leaves(344, a), app("g", app("g", app("g", app("g", a))))))},
		"an empty list of kids":            {bind(api.Term{Kind: api.TermVar, Name: "x", Kids: []api.Term{}}, a)},
		"an atom with the variable's name": binds(t, "?x:key", "x:key"),
	} {
		if e := subst.Valid(s); e != api.OK {
			t.Errorf("%s: %v", what, e)
		}
	}
}

// wrong are substitutions with their errors, for Valid and others.
func wrong(t *testing.T) map[string]struct {
	s    []api.Binding
	want api.Errno
} {
	x, y, n, a := variable("x", api.SortAny), variable("y", api.SortAny), variable("n", api.SortNonce), atom("a", api.SortAny)
	unnamed, deep, zero := variable("", api.SortAny), tower(41, a), api.Term{}
	good := bind(n, atom("m", api.SortNonce))
	return map[string]struct {
		s    []api.Binding
		want api.Errno
	}{
		"201 bindings":                 {many("x", 201, a), api.ErrTooLarge},
		"201 bindings before the rest": {make([]api.Binding, 201), api.ErrTooLarge},
		"an atom is bound":             {[]api.Binding{bind(a, x)}, api.ErrInvalid},
		"an application is bound":      {[]api.Binding{bind(app("f"), x)}, api.ErrInvalid},
		"equal sides":                  {[]api.Binding{bind(x, x)}, api.ErrInvalid},
		"equal sides, empty kids":      {[]api.Binding{bind(x, api.Term{Kind: api.TermVar, Name: "x", Kids: []api.Term{}})}, api.ErrInvalid},
		"equal sides behind others":    {[]api.Binding{good, bind(x, x)}, api.ErrInvalid},
		"zero binding":                 {[]api.Binding{{}}, api.ErrInvalid},
		"equal wrong variables":        {[]api.Binding{bind(unnamed, unnamed)}, api.ErrSyntax},
		"a deep application is bound":  {[]api.Binding{bind(deep, a)}, api.ErrTooLarge},
		"atom for another sort":        {binds(t, "?n:nonce", "a:any"), api.ErrType},
		"key for a nonce":              {binds(t, "?n:nonce", "k:key"), api.ErrType},
		"application for a nonce":      {binds(t, "?n:nonce", "f()"), api.ErrType},
		"variable of SortAny":          {binds(t, "?n:nonce", "?x"), api.ErrType},
		"variable of another sort":     {binds(t, "?n:nonce", "?n:agent"), api.ErrType},
		"the same variable twice":      {[]api.Binding{bind(x, a), bind(x, y)}, api.ErrExists},
		"wrong order of names":         {[]api.Binding{bind(y, a), bind(x, a)}, api.ErrExists},
		"wrong order of sorts":         {binds(t, "?x:agent", "a:agent", "?x", "a:any"), api.ErrExists},
		"wrong order at the end":       {[]api.Binding{good, bind(y, a), bind(x, a)}, api.ErrExists},

		"no name before equal sides":                {[]api.Binding{bind(unnamed, zero)}, api.ErrSyntax},
		"an atom without a name":                    {[]api.Binding{bind(atom("", 0), zero)}, api.ErrSyntax},
		"an atom before its term":                   {[]api.Binding{bind(a, deep)}, api.ErrInvalid},
		"an atom before the sort":                   {[]api.Binding{bind(atom("m", api.SortNonce), a)}, api.ErrInvalid},
		"the term before the sort":                  {[]api.Binding{bind(n, app("f", unnamed))}, api.ErrSyntax},
		"the term before the order":                 {[]api.Binding{bind(x, a), good, bind(n, zero)}, api.ErrExists},
		"the term of the binding out of order":      {[]api.Binding{bind(x, a), bind(n, zero)}, api.ErrInvalid},
		"the sort of the binding out of order":      {[]api.Binding{bind(x, a), bind(n, a)}, api.ErrType},
		"equal sides out of order":                  {[]api.Binding{bind(x, a), bind(n, n)}, api.ErrInvalid},
		"the order before the next binding":         {[]api.Binding{bind(x, a), bind(x, a), bind(y, deep)}, api.ErrExists},
		"a binding before the order behind it":      {[]api.Binding{bind(x, deep), bind(n, a), bind(n, a)}, api.ErrTooLarge},
		"the sort before the next binding":          {[]api.Binding{bind(n, a), bind(x, zero)}, api.ErrType},
		"equal sides before the next variable":      {[]api.Binding{bind(n, n), bind(unnamed, a)}, api.ErrInvalid},
		"the variable before that of the next":      {[]api.Binding{bind(unnamed, a), bind(zero, a)}, api.ErrSyntax},
		"the term before the variable that follows": {[]api.Binding{bind(n, deep), bind(a, a)}, api.ErrTooLarge},
	}
}

// P2.1: Valid returns the first error.
func TestValidErrors(t *testing.T) {
	for what, c := range wrong(t) {
		if e := subst.Valid(c.s); e != c.want {
			t.Errorf("%s: %v, not %v", what, e, c.want)
		}
	}
	for what, c := range invalid() {
		if e := subst.Valid([]api.Binding{bind(c.t, atom("a", api.SortAny))}); e != c.want {
			t.Errorf("bound, %s: %v, not %v", what, e, c.want)
		}
		if e := subst.Valid([]api.Binding{bind(variable("y", api.SortAny), c.t)}); e != c.want {
			t.Errorf("term, %s: %v, not %v", what, e, c.want)
		}
	}
}

// P2.1: a term fits a variable of SortAny, or one of its sort.
func TestFits(t *testing.T) {
	for sort := api.SortAny; sort <= api.SortTag; sort++ {
		x := variable("x", sort)
		for other := api.SortAny; other <= api.SortTag; other++ {
			want := sort == api.SortAny || sort == other
			if subst.Fits(x, atom("a", other)) != want || subst.Fits(x, variable("y", other)) != want || subst.Fits(x, variable("x", other)) != want {
				t.Errorf("sort %d, for a variable of %d: not %v", other, sort, want)
			}
		}
		if subst.Fits(x, app("f", x)) != (sort == api.SortAny) {
			t.Errorf("application, for a variable of %d", sort)
		}
		if subst.Fits(atom("a", sort), atom("a", sort)) || subst.Fits(atom("a", sort), x) {
			t.Errorf("an atom of %d is no variable", sort)
		}
	}
	if subst.Fits(app("f"), app("f")) || subst.Fits(app("f"), atom("a", api.SortAny)) {
		t.Error("an application is no variable")
	}
}

// P2.1: what is not valid does not fit, and nothing fits it.
func TestFitsInvalid(t *testing.T) {
	for what, c := range invalid() {
		if subst.Fits(variable("y", api.SortAny), c.t) {
			t.Errorf("%s fits", what)
		}
		if subst.Fits(c.t, atom("a", c.t.Sort)) || subst.Fits(c.t, atom("a", api.SortAny)) || subst.Fits(c.t, c.t) {
			t.Errorf("%s is fitted", what)
		}
	}
}

// P2.1: terms that are as deep as the document has in view end with an answer.
func TestDeepTerms(t *testing.T) {
	x, a := variable("x", api.SortAny), atom("a", api.SortAny)
	deep := tower(65536, x)
	s := []api.Binding{bind(x, deep)}
	if e := subst.Valid(s); e != api.ErrTooLarge {
		t.Errorf("Valid: %v", e)
	}
	if subst.Fits(x, deep) {
		t.Error("Fits")
	}
	if _, e := subst.Apply([]api.Binding{bind(x, a)}, deep); e != api.ErrTooLarge {
		t.Errorf("Apply: %v", e)
	}
	if _, e := subst.Rename(deep, "-"); e != api.ErrTooLarge {
		t.Errorf("Rename: %v", e)
	}
	if subst.Idempotent(s) {
		t.Error("Idempotent")
	}
	var odd []api.Binding
	for _, depth := range []int{1, 2, 40000, 50000, 65536, 65537, 3} {
		odd = append(odd, bind(tower(depth, x), a), bind(tower(depth, a), x))
	}
	if l := subst.Restrict(odd, []api.Term{deep}); len(l) != 6 || !same(l[5].Var, tower(3, x)) {
		t.Errorf("Restrict: %d", len(l))
	}
}
