package term_test

import (
	"strings"
	"testing"

	"sealring/api"
	"sealring/term"
)

// invalid are terms with their errors, for Valid and Format.
func invalid() map[string]struct {
	t    api.Term
	want api.Errno
} {
	a := atom("a", api.SortAny)
	longName := strings.Repeat("n", api.MaxName+1)
	one := []api.Term{a}
	bad := api.Term{Kind: 9, Name: "x"}
	return map[string]struct {
		t    api.Term
		want api.Errno
	}{
		"zero term":                        {api.Term{}, api.ErrInvalid},
		"kind 4":                           {api.Term{Kind: 4, Name: "a"}, api.ErrInvalid},
		"kind -1":                          {api.Term{Kind: -1, Name: "a"}, api.ErrInvalid},
		"sort -1":                          {atom("a", -1), api.ErrInvalid},
		"sort 6":                           {variable("a", 6), api.ErrInvalid},
		"application with a sort":          {api.Term{Kind: api.TermApp, Name: "f", Sort: api.SortTag}, api.ErrInvalid},
		"variable with a kid":              {api.Term{Kind: api.TermVar, Name: "x", Kids: one}, api.ErrInvalid},
		"atom with a kid":                  {api.Term{Kind: api.TermAtom, Name: "a", Kids: one}, api.ErrInvalid},
		"no name":                          {atom("", api.SortAny), api.ErrSyntax},
		"name begins with a digit":         {atom("1a", api.SortAny), api.ErrSyntax},
		"name begins with _":               {variable("_a", api.SortAny), api.ErrSyntax},
		"name begins with #":               {app("#a"), api.ErrSyntax},
		"name with a space":                {atom("a b", api.SortAny), api.ErrSyntax},
		"name with a letter beyond ASCII":  {atom("a\u00e4", api.SortAny), api.ErrSyntax},
		"name with a byte below letters":   {atom("a@", api.SortAny), api.ErrSyntax},
		"name with a byte between letters": {atom("a[", api.SortAny), api.ErrSyntax},
		"name with `":                      {atom("a`", api.SortAny), api.ErrSyntax},
		"name with {":                      {atom("a{", api.SortAny), api.ErrSyntax},
		"name with /":                      {atom("a/", api.SortAny), api.ErrSyntax},
		"name with :":                      {atom("a:", api.SortAny), api.ErrSyntax},
		"name too long":                    {atom(longName, api.SortAny), api.ErrSyntax},
		"9 kids":                           {app("f", times(9, a)...), api.ErrTooLarge},
		"41 levels":                        {tower(41, a), api.ErrTooLarge},
		"41 levels, lowest empty":          {tower(41, app("f")), api.ErrTooLarge},
		"401 nodes":                        {wide(401), api.ErrTooLarge},

		"kind before name":                        {api.Term{Kind: 4}, api.ErrInvalid},
		"sort before name":                        {atom("", 6), api.ErrInvalid},
		"kids of an atom before its name":         {api.Term{Kind: api.TermAtom, Kids: times(9, a)}, api.ErrInvalid},
		"name before 9 kids":                      {app("", times(9, a)...), api.ErrSyntax},
		"9 kids before what is wrong in them":     {app("f", times(9, bad)...), api.ErrTooLarge},
		"node before its kids":                    {app("2", bad), api.ErrSyntax},
		"earlier kid: name before kind":           {app("f", app("g", atom("", 0)), bad), api.ErrSyntax},
		"earlier kid: kind before name":           {app("f", app("g", bad), atom("", 0)), api.ErrInvalid},
		"earlier kid: 9 kids before kind":         {app("f", app("g", times(9, a)...), bad), api.ErrTooLarge},
		"kind below 41 levels":                    {tower(42, bad), api.ErrInvalid},
		"name below 41 levels":                    {tower(42, atom("", 0)), api.ErrSyntax},
		"kind behind 401 nodes":                   {app("f", wide(401), bad), api.ErrInvalid},
		"kind behind 41 levels":                   {app("f", tower(41, a), bad), api.ErrInvalid},
		"name behind 401 nodes":                   {app("f", wide(401), variable("?", 0)), api.ErrSyntax},
		"kid of a variable, before what is in it": {api.Term{Kind: api.TermVar, Name: "x", Kids: []api.Term{atom("", 0)}}, api.ErrInvalid},
	}
}

// P1.1: Valid returns the first error.
func TestValidErrors(t *testing.T) {
	for what, c := range invalid() {
		if e := term.Valid(c.t); e != c.want {
			t.Errorf("%s: %v, not %v", what, e, c.want)
		}
	}
}

// P1.1: Valid accepts what is valid, up to the limits.
func TestValid(t *testing.T) {
	a := atom("a", api.SortAny)
	accepted := map[string]api.Term{
		"no kids at all":       app("f"),
		"an empty list":        {Kind: api.TermAtom, Name: "a", Kids: []api.Term{}},
		"8 kids":               app("f", times(8, a)...),
		"40 levels":            tower(40, a),
		"40 levels, no leaves": tower(40, app("f")),
		"400 nodes":            wide(400),
		"a name with all":      atom("azAZ09_#", api.SortAny),
		"one letter":           atom("Q", api.SortAny),
		"24 bytes":             variable(strings.Repeat("n", api.MaxName), api.SortAny),
	}
	for what, x := range accepted {
		if e := term.Valid(x); e != api.OK {
			t.Errorf("%s: %v", what, e)
		}
	}
	for sort := api.SortAny; sort <= api.SortTag; sort++ {
		if e := term.Valid(app("f", variable("x", sort), atom("a", sort))); e != api.OK {
			t.Errorf("sort %d: %v", sort, e)
		}
	}
}

// P1.1: Size and Depth count the nodes of any terms.
func TestSizeAndDepth(t *testing.T) {
	a := atom("a", api.SortAny)
	odd := api.Term{Kind: api.TermAtom, Kids: []api.Term{{}, {Kind: -3, Kids: []api.Term{a}}}}
	for what, c := range map[string]struct {
		t           api.Term
		size, depth int
	}{
		"zero term":     {api.Term{}, 1, 1},
		"variable":      {variable("x", api.SortKey), 1, 1},
		"no kids":       {app("f"), 1, 1},
		"pair":          {must(t, "pair(?x, a:nonce)"), 3, 2},
		"deep first":    {must(t, "f(g(h(a:any)), b:any)"), 5, 4},
		"deep last":     {must(t, "f(a:any, b:any, g(h()))"), 5, 3},
		"invalid":       {odd, 4, 3},
		"beyond limits": {wide(585), 585, 4},
		"65536 levels":  {tower(65536, a), 65536, 65536},
	} {
		if n := term.Size(c.t); n != c.size {
			t.Errorf("%s: size %d, not %d", what, n, c.size)
		}
		if n := term.Depth(c.t); n != c.depth {
			t.Errorf("%s: depth %d, not %d", what, n, c.depth)
		}
	}
}

// P1.1: terms with as many levels as the document has in view end with an
// answer.
func TestDeepTerms(t *testing.T) {
	deep := tower(65536, atom("a", api.SortAny))
	if e := term.Valid(deep); e != api.ErrTooLarge {
		t.Errorf("Valid: %v", e)
	}
	if s, e := term.Format(deep); s != "" || e != api.ErrTooLarge {
		t.Errorf("Format: %q, %v", s, e)
	}
	if c := term.Compare(deep, tower(65536, atom("b", api.SortAny))); c != -1 {
		t.Errorf("Compare: %d", c)
	}
	down := make([]int, 65535)
	if x, e := term.At(deep, down); !same(x, atom("a", api.SortAny)) || e != api.OK {
		t.Errorf("At: %v, %v", x, e)
	}
	b := atom("b", api.SortAny)
	if x, e := term.Replace(deep, down, b); e != api.OK || term.Compare(x, tower(65536, b)) != 0 {
		t.Errorf("Replace: %v", e)
	}
	if l := term.Atoms(deep); len(l) != 1 {
		t.Errorf("Atoms: %d", len(l))
	}
}
