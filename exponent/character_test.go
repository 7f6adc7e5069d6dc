package exponent_test

import (
	"math"
	"slices"
	"testing"

	"sealring/api"
	"sealring/exponent"
)

// P6.1: Refute finds a character that CheckRefute accepts, where a product is
// not generated.
func TestRefute(t *testing.T) {
	for _, c := range notGenerated {
		l, m := products(t, c.l...), product(t, c.m)
		x, e := exponent.Refute(l, m)
		if e != api.OK || !refCheckRefute(l, m, x) || !exponent.CheckRefute(l, m, x) {
			t.Errorf("%v, %s: %v, %v", c.l, c.m, x, e)
		}
	}
	for _, c := range generated {
		x, e := exponent.Refute(products(t, c.l...), product(t, c.m))
		if e != api.ErrExists || show(x) != show(api.Character{}) {
			t.Errorf("%v, %s: %v, %v", c.l, c.m, x, e)
		}
	}
}

// P6.1: where the elimination fails at a column with a pivot, the numbers of
// this pivot and of the earlier ones may be 2^30, multiplied; elsewhere they
// may be anything.
func TestRefuteTooLarge(t *testing.T) {
	for what, c := range map[string]struct {
		l    []string
		m    string
		want api.Errno
	}{
		"2^30":                      {[]string{"a512", "b512", "c512", "d8"}, "d4", api.OK},
		"2^30, at first":            {[]string{"d512", "a512", "b8", "c512"}, "d256", api.OK},
		"-2^30":                     {[]string{"a512", "b512", "c512", "d-8"}, "d4", api.OK},
		"2^30, of negative ones":    {[]string{"a-512", "b512", "c-512", "d8"}, "d4", api.OK},
		"2^30 and more factors":     {[]string{"a512 b1 c1 d1", "b512 c1 d1", "c512 d1", "d8"}, "d4", api.OK},
		"2^27 * 9":                  {[]string{"a512", "b512", "c512", "d9"}, "d1", api.ErrTooLarge},
		"2^27 * -9":                 {[]string{"a512", "b512", "c512", "d-9"}, "d1", api.ErrTooLarge},
		"2^30 + 1":                  {[]string{"a1 b-660", "a2 b1", "c25", "d533", "e61"}, "e1", api.ErrTooLarge},
		"2^30 + 1, before the last": {[]string{"a1 b-660", "a2 b1", "c25", "d533", "e61"}, "d1", api.OK},
		"2^31":                      {[]string{"a512", "b512", "c512", "d16"}, "d8", api.ErrTooLarge},
		"2^40":                      {[]string{"a512", "b512", "c512", "d512", "e16"}, "e8", api.ErrTooLarge},
		"1000^12":                   {[]string{"a1000", "b1000", "c1000", "d1000", "e1000", "f1000", "g1000", "h1000", "i1000", "j1000", "k1000", "l1000"}, "l1", api.ErrTooLarge},
		"1000^3 and later ones":     {[]string{"a1000", "b1000", "c1000", "d1000", "e1000"}, "c500", api.OK},
		"the pivot is one of many":  {[]string{"a1000", "b1000", "c1000", "d1000"}, "a1000 b1000 c500", api.OK},
		"no pivot":                  {[]string{"a1000", "b1000", "c1000", "d1000"}, "e1", api.OK},
		"no pivot, more of it":      {[]string{"a1000 e1", "b1000 e1", "c1000 e1", "d1000 e1"}, "e1", api.OK},
		"no pivot, before others":   {[]string{"a1000", "b1000", "c1000", "e1000"}, "d1 e1", api.OK},
		"2^36, a pivot":             {[]string{"a512", "a1 b512", "b1 c512", "c1 d512"}, "d1", api.ErrTooLarge},
		"2^36, as an earlier pivot": {[]string{"a512", "a1 b512", "b1 c512", "c1 d512 f1", "e2"}, "e1", api.ErrTooLarge},
		"2^36, but no pivot":        {[]string{"a512", "a1 b512", "b1 c512", "c1 d512 f1"}, "f1", api.OK},
		"generated":                 {[]string{"a512", "b512", "c512", "d512"}, "d512", api.ErrExists},
		"generated, of large ones":  {[]string{"a512", "a1 b512", "b1 c512", "c1 d512"}, "a512", api.ErrExists},
	} {
		l, m := products(t, c.l...), product(t, c.m)
		x, e := exponent.Refute(l, m)
		if e != c.want || e == api.OK && !refCheckRefute(l, m, x) || e != api.OK && show(x) != show(api.Character{}) {
			t.Errorf("%s: %v, %v, not %v", what, x, e, c.want)
		}
		if _, refute := refErrors(l, m); refute != c.want {
			t.Errorf("%s: %v by the definition", what, refute)
		}
	}
}

// P6.1: where there is no pivot, a modulus may have to divide none of many
// numbers.
func TestRefuteWithoutSmallModulus(t *testing.T) {
	numbers := []int{960, 924, 910, 935, 874, 899, 962, 943, 989, 940, 954}
	var l [][]api.Power
	names := "abcdefghijk"
	for i, n := range numbers {
		p := []api.Power{power(names[i:i+1], n)}
		if i > 0 {
			p = append(p, power("z", i))
		}
		l = append(l, p)
	}
	m := []api.Power{power("z", 720)}
	x, e := exponent.Refute(l, m)
	if e != api.OK || !refCheckRefute(l, m, x) || !exponent.CheckRefute(l, m, x) {
		t.Errorf("%v, %v", x, e)
	}
}

// P6.1: CheckRefute accepts all characters that refute, and no others.
func TestCheckRefute(t *testing.T) {
	const large = 1 << 45
	for what, c := range map[string]struct {
		l      []string
		m      string
		mod    int
		values string
		want   bool
	}{
		// the examples of the document
		"modulo 3": {[]string{"a2 b1", "b3"}, "a2", 3, "a1 b1", true},
		"modulo 2": {[]string{"a2 b1", "b3"}, "a1", 2, "a1", true},

		"modulo 3, but generated":    {[]string{"a2 b1", "b3"}, "a2 b4", 3, "a1 b1", false},
		"modulo 3, other values":     {[]string{"a2 b1", "b3"}, "a2", 3, "a1 b2", false},
		"modulo 3, negative values":  {[]string{"a2 b1", "b3"}, "a2", 3, "a-1 b-1", true},
		"modulo 3, great values":     {[]string{"a2 b1", "b3"}, "a2", 3, "a301 b-299", true},
		"another modulus":            {[]string{"a2 b1", "b3"}, "a2", 2, "a1 b1", false},
		"the product is 0, too":      {[]string{"a2 b1", "b3"}, "a2", 3, "a3", false},
		"no values":                  {[]string{"a2 b1", "b3"}, "a2", 3, "", false},
		"one generator of two":       {[]string{"a2", "a3"}, "a1", 2, "a1", false},
		"the other generator of two": {[]string{"a2", "a3"}, "a1", 3, "a1", false},
		"negative powers":            {[]string{"a-2"}, "a-1", 2, "a1", true},
		"a sum below 0":              {[]string{"a1 b-4"}, "a1 b-1", 3, "a1 b1", false},
		"a sum below 0 is 0":         {[]string{"a1 b-4"}, "a1 b-2", 3, "a1 b1", true},
		"modulo 0":                   {[]string{"a1 b-1"}, "a1", 0, "a1 b1", true},
		"modulo 0, not 0":            {[]string{"a1 b1"}, "a1", 0, "a1 b1", false},
		"modulo 0, the product is 0": {[]string{"a1 b-1"}, "a5 b-5", 0, "a1 b1", false},
		"modulo 0 does not divide":   {[]string{"a2"}, "a1", 0, "a1", false},
		"modulo 1":                   {[]string{"a2"}, "a1", 1, "a1", false},
		"modulo -1":                  {[]string{"a2"}, "a1", -1, "a1", false},
		"modulo -2":                  {[]string{"a2"}, "a1", -2, "a1", false},
		"the least modulus":          {[]string{"b2"}, "a1", math.MinInt, "a1", false},
		"the greatest modulus":       {[]string{"b2"}, "a1", math.MaxInt, "a1", false},
		"modulo 2^45":                {[]string{"b2"}, "a1", large, "a1", true},
		"modulo 2^45 + 1":            {[]string{"b2"}, "a1", large + 1, "a1", false},
		"modulo 2^45, nothing":       {[]string{"a2"}, "a1", large, "a17592186044416", true},
		"2^45":                       {[]string{"a1 b-1"}, "a1", 0, "a35184372088832 b35184372088832", true},
		"-2^45":                      {[]string{"a1 b-1"}, "a1", 0, "a-35184372088832 b-35184372088832", true},
		"2^45 + 1":                   {[]string{"a1 b-1"}, "a1", 0, "a35184372088833 b35184372088833", false},
		"-2^45 - 1":                  {[]string{"a1 b-1"}, "a1", 0, "a-35184372088833 b-35184372088833", false},
		"2^45 + 1 at another factor": {[]string{"a2"}, "a1", 2, "a1 b35184372088833", false},
		"the greatest value":         {nil, "a1", 0, "a9223372036854775807", false},
		"the least value":            {nil, "a1", 0, "a-9223372036854775808", false},
		"0":                          {[]string{"a2"}, "a1", 2, "a1 b0", false},
		"twice":                      {[]string{"a2"}, "a1", 2, "a1 a1", false},
		"twice, at another factor":   {[]string{"a2"}, "a1", 2, "a1 b1 b1", false},
		"descending":                 {[]string{"a2"}, "a1", 2, "b1 a1", false},
		"values of other factors":    {[]string{"a2"}, "a1", 2, "a1 b1 c5 z-7", true},
		"nothing":                    {nil, "a1", 0, "a1", true},
		"nothing, and no product":    {nil, "", 0, "a1", false},
		"neutral":                    {[]string{""}, "a1", 0, "a1", true},
		"a neutral product":          {[]string{"a2"}, "", 2, "a1", false},
		"13 generators":              {slices.Repeat([]string{"a2"}, 13), "a1", 2, "a1", true},
		"500 generators":             {slices.Repeat([]string{"a2"}, 500), "a1", 2, "a1", true},
		"a generator with an error":  {[]string{"a0"}, "a1", 2, "a1", false},
		"a later one with an error":  {[]string{"a2", "b1 a1"}, "a1", 2, "a1", false},
		"a product with an error":    {[]string{"a2"}, "a1001", 2, "a1", false},
		"13 columns":                 {[]string{"a2 b1 c1 d1 e1 f1 g1 h1 i1 j1 k1 l1 m1"}, "a1", 2, "a1", true},
	} {
		l, m, x := products(t, c.l...), product(t, c.m), api.Character{Mod: c.mod, Values: product(t, c.values)}
		if exponent.CheckRefute(l, m, x) != c.want || refCheckRefute(l, m, x) != c.want {
			t.Errorf("%s: not %v", what, c.want)
		}
	}
}

// P6.1: the values of a character stand at valid factors, at most 200, and the
// sums may be as great as they can become.
func TestCheckRefuteValues(t *testing.T) {
	l, m := products(t, "a2"), product(t, "a1")
	for what, c := range badProducts() {
		with := append(product(t, "Z1"), c.l...)
		for _, values := range [][]api.Power{c.l, with} {
			x := api.Character{Mod: 2, Values: values}
			if exponent.CheckRefute(l, m, x) != refCheckRefute(l, m, x) {
				t.Errorf("%s as values: not %v", what, refCheckRefute(l, m, x))
			}
		}
		x := api.Character{Mod: 2, Values: product(t, "a1")}
		if exponent.CheckRefute([][]api.Power{c.l}, m, x) || exponent.CheckRefute([][]api.Power{l[0], c.l}, m, x) || exponent.CheckRefute(l, c.l, x) {
			t.Errorf("%s: accepted", what)
		}
	}
	for _, factor := range invalid() {
		if exponent.CheckRefute(l, m, api.Character{Mod: 2, Values: []api.Power{power("a", 1), {Term: factor.t, N: 1}}}) {
			t.Errorf("%s: accepted", show(factor.t))
		}
	}
	if exponent.CheckRefute(l, m, api.Character{Mod: 2, Values: []api.Power{power("a", 1), {Term: app("one"), N: 1}}}) {
		t.Error("no factor: accepted")
	}
	all := append(product(t, "a1"), many("b", 199)...)
	if !exponent.CheckRefute(l, m, api.Character{Mod: 2, Values: all}) {
		t.Error("200 values: not accepted")
	}
	if exponent.CheckRefute(l, m, api.Character{Mod: 2, Values: append(all, power("c0000", 1))}) {
		t.Error("201 values: accepted")
	}
	values, m, twice := many("a", 200), many("a", 200), many("a", 200)
	for i := range 200 {
		values[i].N, m[i].N, twice[i].N = 1<<45, 1000, 1000
		if i%2 == 1 {
			twice[i].N = -1000
		}
	}
	if !exponent.CheckRefute([][]api.Power{twice}, m, api.Character{Values: values}) {
		t.Error("the greatest values: not accepted")
	}
	if exponent.CheckRefute([][]api.Power{m}, product(t, "a1"), api.Character{Values: append(product(t, "a1"), values[1:]...)}) {
		t.Error("the greatest sum: accepted")
	}
}

// P6.1: equal arguments give equal results that share no memory with one
// another, within themselves, or with the arguments, which do not change.
func TestRefuteSharesNothing(t *testing.T) {
	l := [][]api.Power{of(t, must(t, "mul(g(h(a:any)), g(h(a:any)), f(?x))")), of(t, must(t, "mul(f(?x), f(?x), f(?x), g(b:any))"))}
	for _, s := range []string{"mul(g(h(a:any)), g(h(a:any)))", "f(g(b:any))", "f(f(f(b:any)))", "g(b:any)", "mul(g(h(a:any)), f(?x))"} {
		m := of(t, must(t, s))
		before := show(l) + show(m)
		x, e := exponent.Refute(l, m)
		y, f := exponent.Refute(l, m)
		if e != api.OK || f != api.OK || show(x) != show(y) || len(x.Values) == 0 {
			t.Fatalf("%s: %v, %v, %v, %v", s, x, e, y, f)
		}
		apartProducts(t, s, append(slices.Clone(l), m, x.Values, y.Values)...)
		if !exponent.CheckRefute(l, m, x) || show(x) != show(y) || show(l)+show(m) != before {
			t.Errorf("%s: an argument has changed", s)
		}
	}
}
