package refute_test

import (
	"math"
	"math/rand/v2"
	"slices"
	"strings"
	"testing"

	"sealring/api"
	"sealring/refute"
)

// sample is a refusal, which is not right, with all that a text may have.
func sample() api.Refusal {
	a, x := atom("a", api.SortAny), variable("x", api.SortKey)
	f := app("f", a, app("one"))
	return api.Refusal{
		Known: []api.Term{f, a, x, a},
		Sums: []api.NoSum{
			{Term: a},
			{Term: x, Odd: []api.Term{f}},
			{Term: f, Odd: []api.Term{x, a, a}},
		},
		Powers: []api.NoPower{
			{Term: a, Base: app("one")},
			{Term: f, Base: x, Shows: api.Character{Mod: 7, Values: []api.Power{{Term: a, N: -12}}}},
			{Term: x, Base: f, Shows: api.Character{Mod: -3, Values: []api.Power{{Term: f, N: 0}, {Term: x, N: math.MaxInt}, {Term: f, N: math.MinInt}}}},
		},
	}
}

const sampleText = `known f(a:any, one())
known a:any
known ?x:key
known a:any
sum a:any
sum ?x:key | f(a:any, one())
sum f(a:any, one()) | ?x:key | a:any | a:any
power a:any | one() mod 0
power f(a:any, one()) | ?x:key mod 7 | a:any -12
power ?x:key | f(a:any, one()) mod -3 | f(a:any, one()) 0 | ?x:key 9223372036854775807 | f(a:any, one()) -9223372036854775808
`

// P12.1: the text of a refusal, right or not.
func TestFormat(t *testing.T) {
	r := sample()
	before := show(r)
	if s, e := refute.Format(r); s != sampleText || e != api.OK {
		t.Errorf("%v\n%s", e, s)
	}
	if show(r) != before {
		t.Error("the argument has changed")
	}
	for want, r := range map[string]api.Refusal{
		"":                                 {},
		"known a:any\n":                    {Known: all(t, "a:any")},
		"sum a:any | b:any\n":              {Sums: []api.NoSum{{Term: must(t, "a:any"), Odd: all(t, "b:any")}}},
		"power a:any | one() mod 0\n":      {Powers: []api.NoPower{{Term: must(t, "a:any"), Base: app("one")}}},
		"power ?x | ?y mod 2 | g:data 1\n": {Powers: []api.NoPower{{Term: must(t, "?x"), Base: must(t, "?y"), Shows: api.Character{Mod: 2, Values: []api.Power{{Term: must(t, "g:data"), N: 1}}}}}},
		"known f()\nsum g()\n":             {Known: all(t, "f()"), Sums: []api.NoSum{{Term: must(t, "g()")}}},
	} {
		if s, e := refute.Format(r); s != want || e != api.OK {
			t.Errorf("%q: %q, %v", want, s, e)
		}
	}
}

// P12.1: the text of the refusal of the document's example.
func TestFormatOfRefusals(t *testing.T) {
	r := build(t, all(t, "xor(a:any, b:any); mul(x:any, x:any); exp(h:any, x:any)"), must(t, "h:any"))
	s, e := refute.Format(r)
	want, f := refFormat(r)
	if e != api.OK || f != api.OK || s != want || !strings.HasPrefix(s, "known exp(h:any, x:any)\nknown mul(x:any, x:any)\nknown xor(a:any, b:any)\nsum a:any | ") || !strings.Contains(s, "\npower h:any | exp(h:any, x:any) mod 2 | x:any ") {
		t.Errorf("%v\n%s", e, s)
	}
}

// P12.1: a refusal may be of any size: only its terms have limits.
func TestLargeText(t *testing.T) {
	r := api.Refusal{Known: slices.Repeat([]api.Term{wide(400)}, 300)}
	s, e := refute.Format(r)
	if want, f := refFormat(r); e != api.OK || s != want || f != api.OK || len(s) <= api.MaxText {
		t.Errorf("%v, %d bytes", e, len(s))
	}
}

// places returns the terms of a refusal in the order of its text.
func places(r *api.Refusal) []*api.Term {
	var l []*api.Term
	for i := range r.Known {
		l = append(l, &r.Known[i])
	}
	for i := range r.Sums {
		l = append(l, &r.Sums[i].Term)
		for j := range r.Sums[i].Odd {
			l = append(l, &r.Sums[i].Odd[j])
		}
	}
	for i := range r.Powers {
		l = append(l, &r.Powers[i].Term, &r.Powers[i].Base)
		for j := range r.Powers[i].Shows.Values {
			l = append(l, &r.Powers[i].Shows.Values[j].Term)
		}
	}
	return l
}

// P12.1: the error of Format is that of the first term that is not valid.
func TestFormatErrors(t *testing.T) {
	wrong := []struct {
		t    api.Term
		want api.Errno
	}{
		{api.Term{}, api.ErrInvalid},
		{atom("", api.SortAny), api.ErrSyntax},
		{app("f", atoms("a", 9)...), api.ErrTooLarge},
	}
	whole := sample()
	n := len(places(&whole))
	for i := range n {
		for k, c := range wrong {
			r := sample()
			*places(&r)[i] = c.t
			if s, e := refute.Format(r); s != "" || e != c.want {
				t.Errorf("term %d: %q, %v, not %v", i, s, e, c.want)
			}
			for j := i + 1; j < n; j++ {
				r := sample()
				*places(&r)[i] = c.t
				*places(&r)[j] = wrong[(k+1)%3].t
				if s, e := refute.Format(r); s != "" || e != c.want {
					t.Errorf("terms %d and %d: %q, %v, not %v", i, j, s, e, c.want)
				}
			}
		}
	}
	// A term need not be one of the theory.
	if s, e := refute.Format(api.Refusal{Known: all(t, "fst(?x)")}); s != "known fst(?x)\n" || e != api.OK {
		t.Errorf("%q, %v", s, e)
	}
}

// P12.1: Format is as the definition says, on refusals of all kinds in which
// something has been changed.
func TestFormatOfSpoiledRefusals(t *testing.T) {
	r := rand.New(rand.NewPCG(10, 10))
	for i := range 2000 {
		q := randomOpen(r, i%len(kinds))
		c := spoiled(r, built(q), append(slices.Clone(q.k), q.t, api.Term{}))
		s, e := refute.Format(c)
		if want, f := refFormat(c); s != want || e != f {
			t.Fatalf("%s: %v\n%s", show(c), e, s)
		}
	}
}
