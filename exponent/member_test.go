package exponent_test

import (
	"math"
	"slices"
	"testing"

	"sealring/api"
	"sealring/exponent"
)

// generated are generators with products that they generate.
var generated = []struct {
	l []string
	m string
}{
	// the example of the document
	{[]string{"a2 b1", "b3"}, "a2 b4"},

	{nil, ""},
	{[]string{""}, ""},
	{[]string{"a1"}, ""},
	{[]string{"a1"}, "a1"},
	{[]string{"a1"}, "a-1000"},
	{[]string{"a-1"}, "a1"},
	{[]string{"", "a2", ""}, "a-6"},
	{[]string{"a2", "a3"}, "a1"},
	{[]string{"a-6", "a10", "a-15"}, "a1"},
	{[]string{"a1 b1", "b1"}, "a1"},
	{[]string{"b1", "a1 b1"}, "a1"},
	{[]string{"a1 b1", "a1 b1"}, "a-3 b-3"},
	{[]string{"a2 b4", "a3 b6"}, "a1 b2"},
	{[]string{"a1 b-1", "b1 c-1", "c1 d-1"}, "a1 d-1"},
	{[]string{"b1 c1", "a1 c1", "a1 b1"}, "a2"},
	{[]string{"a2 b3", "a3 b5"}, "a1"},
	{[]string{"a1 b5", "c1"}, "c2"},
	{[]string{"a4 b2", "a6 b1"}, "b4"},
	{[]string{"a12", "a30", "a1000 b1"}, "a6"},
	{[]string{"a1 b1 c1 d1 e1 f1 g1 h1 i1 j1 k1 l1"}, "a5 b5 c5 d5 e5 f5 g5 h5 i5 j5 k5 l5"},
}

// notGenerated are generators with products that they do not generate.
var notGenerated = []struct {
	l []string
	m string
}{
	// the examples of the document
	{[]string{"a2 b1", "b3"}, "a2"},
	{[]string{"a2 b1", "b3"}, "a1"},

	{nil, "a1"},
	{[]string{""}, "a1"},
	{[]string{"a2"}, "a1"},
	{[]string{"a-2"}, "a-3"},
	{[]string{"a1000"}, "a999"},
	{[]string{"a2"}, "b1"},
	{[]string{"b2"}, "a1 b2"},
	{[]string{"a1 b1"}, "a1"},
	{[]string{"a1 b1"}, "b1"},
	{[]string{"a1 b2", "a1 b-2"}, "b1"},
	{[]string{"a1 b2", "a1 b-2"}, "a1"},
	{[]string{"a1 b2", "a1 b-2"}, "b2"},
	{[]string{"a2 b1", "b4"}, "b2"},
	{[]string{"a6", "a10"}, "a1"},
	{[]string{"a2 b2", "a3 b3"}, "a1 b2"},
	{[]string{"a1 b-1", "b1 c-1", "c1 d-1"}, "a1 d1"},
	{[]string{"b1 c1", "a1 c1", "a1 b1"}, "a1"},
	{[]string{"a4 b2", "a6 b1"}, "b2"},
	{[]string{"a30 b1 c7", "b42 c11", "c70"}, "c7"},
	{[]string{"a-30 b1 c7", "b-42 c11", "c-70"}, "c7"},
	{[]string{"a30 b1 c7", "b42 c11"}, "c7"},
	{[]string{"a2 d1", "b3 d1", "c5 d1"}, "d1"},
	{[]string{"a1 b1 c1 d1 e1 f1 g1 h1 i1 j1 k1"}, "l1"},
}

// P6.1: Member finds integers that Check accepts, where there are any.
func TestMember(t *testing.T) {
	for _, c := range generated {
		l, m := products(t, c.l...), product(t, c.m)
		x, e := exponent.Member(l, m)
		if e != api.OK || !refCheck(l, m, x) || !exponent.Check(l, m, x) {
			t.Errorf("%v, %s: %v, %v", c.l, c.m, x, e)
		}
	}
	for _, c := range notGenerated {
		x, e := exponent.Member(products(t, c.l...), product(t, c.m))
		if e != api.ErrNotFound || len(x) != 0 {
			t.Errorf("%v, %s: %v, %v", c.l, c.m, x, e)
		}
	}
}

// P6.1: generators whose powers are known only in one way.
func TestMemberUnique(t *testing.T) {
	for _, c := range []struct {
		l    []string
		m    string
		want []int
	}{
		{[]string{"a2 b1", "b3"}, "a2 b4", []int{1, 1}},
		{[]string{"b1", "a1 b1"}, "a1", []int{-1, 1}},
		{[]string{"a2 b3", "a3 b5"}, "a1", []int{5, -3}},
		{[]string{"c1", "b1 c1", "a1 b1 c1"}, "a-3 b4 c1000", []int{996, 7, -3}},
	} {
		x, e := exponent.Member(products(t, c.l...), product(t, c.m))
		if e != api.OK || !slices.Equal(x, c.want) {
			t.Errorf("%v, %s: %v, %v", c.l, c.m, x, e)
		}
	}
}

// badEliminations are arguments of Member and Refute with errors that do not
// depend on whether the product is generated.
func badEliminations(t *testing.T) map[string]struct {
	l    [][]api.Power
	m    []api.Power
	want api.Errno
} {
	type list = [][]api.Power
	a, zero, twice := product(t, "a1"), product(t, "a0"), product(t, "a1 a1")
	none := []api.Power{{Term: app("one"), N: 1}}
	return map[string]struct {
		l    [][]api.Power
		m    []api.Power
		want api.Errno
	}{
		"13 generators":                     {make(list, 13), nil, api.ErrTooLarge},
		"200 generators":                    {slices.Repeat(list{a}, 200), a, api.ErrTooLarge},
		"13 generators before their errors": {slices.Repeat(list{zero}, 13), none, api.ErrTooLarge},
		"the first generator's error":       {list{zero, twice}, none, api.ErrRange},
		"the second generator's error":      {list{a, twice, none}, zero, api.ErrExists},
		"the product's error":               {list{a, a}, none, api.ErrInvalid},
		"the error before 13 columns":       {list{many("a", 13)}, zero, api.ErrRange},
		"13 columns of a generator":         {list{many("a", 13)}, nil, api.ErrTooLarge},
		"13 columns of the product":         {nil, many("a", 13), api.ErrTooLarge},
		"13 columns of generators":          {list{many("a", 6), many("b", 7)}, nil, api.ErrTooLarge},
		"13 columns of all":                 {list{many("a", 6), many("b", 6)}, product(t, "z1"), api.ErrTooLarge},
		"200 columns":                       {list{many("a", 200)}, many("a", 200), api.ErrTooLarge},
		"201 powers":                        {list{many("a", 201)}, nil, api.ErrTooLarge},
	}
}

// P6.1: the errors of Member and Refute that come before the elimination.
func TestEliminationErrors(t *testing.T) {
	for what, c := range badEliminations(t) {
		if x, e := exponent.Member(c.l, c.m); e != c.want || len(x) != 0 {
			t.Errorf("Member, %s: %v, %v, not %v", what, x, e, c.want)
		}
		if x, e := exponent.Refute(c.l, c.m); e != c.want || show(x) != show(api.Character{}) {
			t.Errorf("Refute, %s: %v, %v, not %v", what, x, e, c.want)
		}
	}
	good := product(t, "a1")
	for what, c := range badProducts() {
		for _, l := range [][][]api.Power{{c.l}, {good, c.l}, {c.l, {{}}}} {
			if x, e := exponent.Member(l, []api.Power{power("a", 0)}); e != c.want || len(x) != 0 {
				t.Errorf("Member, %s: %v, %v, not %v", what, x, e, c.want)
			}
			if x, e := exponent.Refute(l, []api.Power{power("a", 0)}); e != c.want || show(x) != show(api.Character{}) {
				t.Errorf("Refute, %s: %v, %v, not %v", what, x, e, c.want)
			}
		}
		if x, e := exponent.Member([][]api.Power{good}, c.l); e != c.want || len(x) != 0 {
			t.Errorf("Member, %s as the product: %v, %v, not %v", what, x, e, c.want)
		}
		if x, e := exponent.Refute([][]api.Power{good}, c.l); e != c.want || show(x) != show(api.Character{}) {
			t.Errorf("Refute, %s as the product: %v, %v, not %v", what, x, e, c.want)
		}
	}
}

// P6.1: 12 generators and 12 columns are not too many, and factors count once.
func TestLargestEliminations(t *testing.T) {
	var l [][]api.Power
	for i := range 12 {
		l = append(l, many("a", 12)[:i+1])
	}
	m := many("a", 12)
	for i := range m {
		m[i].N = 5*i - 17
	}
	if x, e := exponent.Member(l, m); e != api.OK || !refCheck(l, m, x) {
		t.Errorf("generated: %v, %v", x, e)
	}
	for i := range l {
		l[i] = slices.Clone(l[i])
		l[i][i].N = 3
	}
	l[11][11].N = 2
	m = many("a", 12)[11:]
	if x, e := exponent.Member(l, m); e != api.ErrNotFound {
		t.Errorf("not generated: %v, %v", x, e)
	}
	if x, e := exponent.Refute(l, m); e != api.OK || !refCheckRefute(l, m, x) {
		t.Errorf("refuted: %v, %v", x, e)
	}
}

// P6.1: a number is too large if it is beyond -2^40 or 2^40, wherever in the
// elimination it stands; but it fails at the first column at which it has to.
func TestTooLargeNumbers(t *testing.T) {
	const large = api.ErrTooLarge
	for what, c := range map[string]struct {
		l              []string
		m              string
		member, refute api.Errno
	}{
		// in the row of the product: 2^9 and 2^9 and 2^9 and 2^9 and 2^4
		"2^40":      {[]string{"a1 b512", "b1 c512", "c1 d512", "d1 e512", "e1"}, "a16", api.OK, api.ErrExists},
		"-2^40":     {[]string{"a1 b512", "b1 c512", "c1 d512", "d1 e512", "e1"}, "a-16", api.OK, api.ErrExists},
		"2^40 + 1":  {[]string{"a1 b512", "b1 c512", "c1 d512", "d1 e512", "e1"}, "a16 e1", large, large},
		"2^40 - 1":  {[]string{"a1 b512", "b1 c512", "c1 d512", "d1 e512", "e1"}, "a16 e-1", api.OK, api.ErrExists},
		"-2^40 - 1": {[]string{"a1 b512", "b1 c512", "c1 d512", "d1 e512", "e1"}, "a-16 e-1", large, large},
		"-2^40 + 1": {[]string{"a1 b512", "b1 c512", "c1 d512", "d1 e512", "e1"}, "a-16 e1", api.OK, api.ErrExists},
		// far more than an int can hold
		"10^18 and more": {[]string{"a1 b1000", "b1 c1000", "c1 d1000", "d1 e1000", "e1 f1000", "f1 g1000", "g1 h1000", "h1"}, "a1", large, large},

		// it fails before a number is too large, or beside it
		"fails before":      {[]string{"a1 c512", "c1 d512", "d1 e512", "e1 f512", "f1 g1"}, "a16 b1", api.ErrNotFound, api.OK},
		"fails behind":      {[]string{"a1 c512", "c1 d512", "d1 e512", "e1 f512", "f1"}, "a16 f1 g1", large, large},
		"fails at the last": {[]string{"a1 b512", "b1 c512", "c1 d512", "d1 e512"}, "a16", api.ErrNotFound, api.OK},
		"fails too late":    {[]string{"a1 b512", "b1 c512", "c1 d512", "d1 e512"}, "a16 e1", large, large},

		// in the rows of generators: 2^9 and 2^9 and 2^9 and 2^9 and 2^4
		"2^40 of a generator":      {[]string{"a512", "a1 b512", "b1 c512", "c1 d512", "d1 e16"}, "a512", api.OK, api.ErrExists},
		"2^40 + 1 of a generator":  {[]string{"a512 e1", "a1 b512", "b1 c512", "c1 d512", "d1 e16"}, "", large, large},
		"2^40 - 1 of a generator":  {[]string{"a512 e-1", "a1 b512", "b1 c512", "c1 d512", "d1 e16"}, "", api.OK, api.ErrExists},
		"-2^40 of a generator":     {[]string{"a512", "a1 b512", "b1 c512", "c1 d512", "d1 e-16"}, "a512", api.OK, api.ErrExists},
		"-2^40 - 1 of a generator": {[]string{"a512 e-1", "a1 b512", "b1 c512", "c1 d512", "d1 e-16"}, "", large, large},
		"-2^40 + 1 of a generator": {[]string{"a512 e1", "a1 b512", "b1 c512", "c1 d512", "d1 e-16"}, "", api.OK, api.ErrExists},
		"pivots before the rest":   {[]string{"b512", "b1 c512", "c1 d512", "d1 e512", "e1 f512"}, "a1", large, large},
		"pivots that are not used": {[]string{"b512", "b1 c512", "c1 d512", "d1 e512", "e1 f512"}, "", large, large},

		// in coefficients alone: the last pivot has 3 and -2
		"2^40, 1 coefficient":      {[]string{"a1 b512", "b1 c512", "c1 d512", "d1 e512", "e1"}, "a16", api.OK, api.ErrExists},
		"3 * 2^40 as coefficient":  {[]string{"a1 b512", "b1 c512", "c1 d512", "d1 e512", "e7", "e5"}, "a16", large, large},
		"3 * 2^38 as coefficient":  {[]string{"a1 b512", "b1 c512", "c1 d512", "d1 e512", "e7", "e5"}, "a4", api.OK, api.ErrExists},
		"-3 * 2^40 as coefficient": {[]string{"a1 b512", "b1 c512", "c1 d512", "d1 e512", "e7", "e5"}, "a-16", large, large},
		// the row of e5 has 5 and -7, which are multiplied by 2^37 at last
		"7 * 2^38 in a generator": {[]string{"A7 e1", "A5", "a512", "a1 b512", "b1 c512", "c1 d512", "d1 e4"}, "", large, large},
		"7 * 2^37 in a generator": {[]string{"A7 e1", "A5", "a512", "a1 b512", "b1 c512", "c1 d512", "d1 e2"}, "", api.OK, api.ErrExists},
	} {
		l, m := products(t, c.l...), product(t, c.m)
		x, e := exponent.Member(l, m)
		if e != c.member || e == api.OK && !refCheck(l, m, x) || e != api.OK && len(x) != 0 {
			t.Errorf("Member, %s: %v, %v, not %v", what, x, e, c.member)
		}
		y, e := exponent.Refute(l, m)
		if e != c.refute || e == api.OK && !refCheckRefute(l, m, y) || e != api.OK && show(y) != show(api.Character{}) {
			t.Errorf("Refute, %s: %v, %v, not %v", what, y, e, c.refute)
		}
		if member, refute := refErrors(l, m); member != c.member || refute != c.refute {
			t.Errorf("%s: %v, %v by the definition", what, member, refute)
		}
	}
}

// P6.1: Check accepts all integers whose product is right, and no others.
func TestCheck(t *testing.T) {
	const large = 1 << 45
	for what, c := range map[string]struct {
		l    []string
		m    string
		c    []int
		want bool
	}{
		"right":                    {[]string{"a2 b1", "b3"}, "a2 b4", []int{1, 1}, true},
		"wrong":                    {[]string{"a2 b1", "b3"}, "a2 b4", []int{1, 2}, false},
		"negated":                  {[]string{"a2 b1", "b3"}, "a2 b4", []int{-1, -1}, false},
		"one factor wrong":         {[]string{"a2 b1", "b3"}, "a2 b5", []int{1, 1}, false},
		"a factor too many":        {[]string{"a2 b1", "b3"}, "a2", []int{1, 0}, false},
		"a factor too few":         {[]string{"a2 b1", "b3"}, "a2 b4 c1", []int{1, 1}, false},
		"another factor":           {[]string{"a2"}, "b2", []int{1}, false},
		"one of many":              {[]string{"a1", "a1"}, "a5", []int{1000005, -1000000}, true},
		"too few integers":         {[]string{"a1", "b1"}, "a1", []int{1}, false},
		"too many integers":        {[]string{"a1"}, "a1", []int{1, 0}, false},
		"no integers":              {[]string{""}, "", nil, false},
		"nothing":                  {nil, "", nil, true},
		"nothing, with integers":   {nil, "", []int{0}, false},
		"nothing, but a product":   {nil, "a1", nil, false},
		"neutral":                  {[]string{"", "a1"}, "", []int{5, 0}, true},
		"2^45":                     {[]string{"a1", "a-1"}, "a1", []int{large, large - 1}, true},
		"-2^45":                    {[]string{"a1", "a1"}, "a-1", []int{-large, large - 1}, true},
		"2^45 + 1":                 {[]string{"a1", "a-1"}, "a1", []int{large + 1, large}, false},
		"-2^45 - 1":                {[]string{"a1", "a1"}, "a-1", []int{-large - 1, large}, false},
		"2^45 + 1 as the last":     {[]string{"a1", "a-1"}, "a-1", []int{large, large + 1}, false},
		"2^45 + 1 of nothing":      {[]string{""}, "", []int{large + 1}, false},
		"the greatest of nothing":  {[]string{""}, "", []int{math.MaxInt}, false},
		"the least of nothing":     {[]string{""}, "", []int{math.MinInt}, false},
		"2^60 turns around":        {[]string{"a16"}, "", []int{1 << 60}, false},
		"great powers cancel":      {[]string{"a1000 b1", "a1000"}, "b1000", []int{1000, -1000}, true},
		"more than a product has":  {[]string{"a1000"}, "a1000", []int{2}, false},
		"a product with an error":  {[]string{"a1000", "a1000"}, "a2000", []int{1, 1}, false},
		"0 in a product":           {[]string{"a1"}, "a0", []int{0}, false},
		"0 in a generator":         {[]string{"a0"}, "", []int{0}, false},
		"descending":               {[]string{"b1 a1"}, "a1 b1", []int{1}, false},
		"a descending product":     {[]string{"a1 b1"}, "b1 a1", []int{1}, false},
		"an error in a later one":  {[]string{"a1", "b1 b1"}, "a1", []int{1, 0}, false},
		"13 generators":            {slices.Repeat([]string{"a1"}, 13), "a13", slices.Repeat([]int{1}, 13), true},
		"13 columns":               {[]string{"a1 b1 c1 d1 e1 f1 g1 h1 i1 j1 k1 l1 m1"}, "", []int{0}, true},
		"200 generators":           {slices.Repeat([]string{"a1"}, 200), "a200", slices.Repeat([]int{1}, 200), true},
		"201 generators":           {slices.Repeat([]string{"a1"}, 201), "a201", slices.Repeat([]int{1}, 201), false},
		"201 generators, nothing":  {make([]string, 201), "", make([]int, 201), false},
		"the greatest sum":         {slices.Repeat([]string{"a1000"}, 200), "a1", slices.Repeat([]int{large}, 200), false},
		"the greatest sums cancel": {slices.Repeat([]string{"a1000", "a1000"}, 100), "", slices.Repeat([]int{large, -large}, 100), true},
	} {
		l, m := products(t, c.l...), product(t, c.m)
		if exponent.Check(l, m, c.c) != c.want || refCheck(l, m, c.c) != c.want {
			t.Errorf("%s: not %v", what, c.want)
		}
	}
	for what, c := range badProducts() {
		if exponent.Check([][]api.Power{c.l}, c.l, []int{1}) || exponent.Check([][]api.Power{c.l}, nil, []int{0}) || exponent.Check([][]api.Power{product(t, "a1"), c.l}, nil, []int{0, 0}) || exponent.Check(nil, c.l, nil) {
			t.Errorf("%s: accepted", what)
		}
	}
}

// P6.1: Check accepts as many factors as products can have.
func TestCheckManyFactors(t *testing.T) {
	var l [][]api.Power
	c := make([]int, 200)
	for i := range 200 {
		l = append(l, many(string(rune('a'+i%26))+string(rune('a'+i/26)), 200))
	}
	c[7] = 1
	if !exponent.Check(l, l[7], c) || exponent.Check(l, l[6], c) || exponent.Check(l, nil, c) {
		t.Error("40000 factors")
	}
	c[8] = -1
	if exponent.Check(l, l[7], c) {
		t.Error("40000 factors: 200 too many")
	}
}

// P6.1: factors are equal only if they are equal as terms.
func TestSimilarFactors(t *testing.T) {
	texts := []string{"a:any", "a:key", "?a", "?a:key", "a()", "b:any", "f(a:any)", "f(?a)", "f(mul(a:any, b:any))", "f(mul(b:any, a:any))", "f(inv(inv(a:any)))"}
	for i, s := range texts {
		for k, u := range texts {
			l, m := [][]api.Power{of(t, must(t, s))}, of(t, must(t, u))
			x, e := exponent.Member(l, m)
			if i == k && (e != api.OK || !slices.Equal(x, []int{1})) || i != k && e != api.ErrNotFound {
				t.Errorf("%s, %s: %v, %v", s, u, x, e)
			}
			if exponent.Check(l, m, []int{1}) != (i == k) {
				t.Errorf("%s, %s: Check", s, u)
			}
		}
	}
}

// P6.1: equal arguments give equal results that share no memory with one
// another or with the arguments, which do not change.
func TestMemberSharesNothing(t *testing.T) {
	l, m := products(t, "a4 b2 c1", "a6 b1", "b3 c5"), product(t, "a2 b2 c4")
	before := show(l) + show(m)
	x, e := exponent.Member(l, m)
	y, f := exponent.Member(l, m)
	if e != api.OK || f != api.OK || !slices.Equal(x, y) {
		t.Fatalf("%v, %v, %v, %v", x, e, y, f)
	}
	x[0]++
	if slices.Equal(x, y) {
		t.Error("results share memory")
	}
	if !exponent.Check(l, m, y) || show(l)+show(m) != before {
		t.Error("an argument has changed")
	}
}
