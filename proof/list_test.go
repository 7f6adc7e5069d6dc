package proof_test

import (
	"math"
	"math/rand/v2"
	"slices"
	"testing"

	"sealring/api"
	"sealring/proof"
)

// P11.1: Trim leaves out what the last step does not depend on.
func TestTrim(t *testing.T) {
	for _, c := range []struct{ l, want string }{
		{"", ""},
		{"given 0: a:any", "given 0: a:any"},
		{"given 0: a:any; given 1: b:any", "given 1: b:any"},
		{"given 0: a:any; given 1: b:any; hash 0: hash(a:any)", "given 0: a:any; hash 0: hash(a:any)"},
		{"given 0: a:any; given 1: b:any; hash 1: hash(b:any)", "given 1: b:any; hash 0: hash(b:any)"},
		{"given 0: a:any; given 0: a:any; given 1: b:any; public: c:agent; pair 3 1: pair(c:agent, a:any); hash 0: hash(a:any); enc 4 4: d:any", "given 0: a:any; public: c:agent; pair 1 0: pair(c:agent, a:any); enc 2 2: d:any"},
		{"given 0: a:any; hash 0: b:any; hash 1: c:any; hash 2: d:any; hash 1: e:any", "given 0: a:any; hash 0: b:any; hash 1: e:any"},
		{"given 0: a:any; given 1: b:any; given 2: c:any; sum 2 0 2: c:any; sum 3 2 0: d:any; sum: zero(); power 4 2^-1 2^5: e:any", "given 0: a:any; given 2: c:any; sum 1 0 1: c:any; sum 2 1 0: d:any; power 3 1^-1 1^5: e:any"},
		{"given 5: a:any; given 6: b:any; product 1^2 1^0: c:any", "given 6: b:any; product 0^2 0^0: c:any"},
		{"public: a:agent; public: b:agent; sum: zero()", "sum: zero()"},
	} {
		l := steps(t, c.l)
		before := show(l)
		got := proof.Trim(l)
		if !sameSteps(got, steps(t, c.want)) || !sameSteps(got, refTrim(l)) {
			t.Errorf("%s\n%s", c.l, lines(got))
		}
		isNew(t, c.l, got, memory(l)...)
		if show(l) != before {
			t.Errorf("%s: the argument has changed", c.l)
		}
	}
}

// P11.1: Trim returns a list as it is if an element of Args is not an earlier
// index, whether the step is needed or not.
func TestTrimOfOtherLists(t *testing.T) {
	a := atom("a", api.SortAny)
	for _, args := range [][]int{{-1}, {1}, {2}, {3}, {0, 5}, {math.MinInt}, {math.MaxInt}} {
		l := []api.Deduction{{Rule: 99, N: -7, Coeffs: []int{1}, Term: app("f", a)}, {Rule: api.ByHash, Args: args, Term: app("hash", a)}, {Rule: api.ByGiven, Term: a}}
		for _, m := range [][]api.Deduction{l, l[:2]} {
			if got := proof.Trim(m); !sameSteps(got, m) {
				t.Errorf("%v: %s", args, show(got))
			}
		}
		isNew(t, show(args), proof.Trim(l), memory(l)...)
	}
	// A step of any rule depends on its Args.
	l := []api.Deduction{{}, {Rule: api.ByPublic, Term: a}, {}, {Rule: -3, N: 9, Args: []int{1, 1}, Coeffs: []int{1 << 60}, Term: api.Term{Kind: 7}}, {Rule: api.ByGiven, Args: []int{3}}}
	want := []api.Deduction{l[1], {Rule: -3, N: 9, Args: []int{0, 0}, Coeffs: l[3].Coeffs, Term: l[3].Term}, {Rule: api.ByGiven, Args: []int{1}}}
	if got := proof.Trim(l); !sameSteps(got, want) {
		t.Errorf("%s", show(got))
	}
	long := slices.Repeat([]api.Deduction{{Rule: api.ByHash, Args: []int{0}, Term: a}}, 5000)
	long[0].Args = nil
	if got := proof.Trim(long); len(got) != 2 || !slices.Equal(got[1].Args, []int{0}) {
		t.Errorf("5000 steps: %d", len(got))
	}
}

// P11.1: Steps and Uses count and list the steps of any list.
func TestStepsAndUses(t *testing.T) {
	for _, c := range []struct {
		l    string
		n    int
		uses []int
	}{
		{"", 0, nil},
		{"given 0: a:any", 0, []int{0}},
		{"public: a:agent", 0, nil},
		{"given 3: a:any; given 1: b:any; given 3: a:any; given 0: c:any", 0, []int{0, 1, 3}},
		{"given 7: a:any; public: b:agent; hash 0: hash(a:any); pair 0 1: pair(a:any, b:agent); sum: zero(); product: one(); given 2: a:any", 4, []int{2, 7}},
		{"given 1000000: a:any; power 0: a:any; power 1: a:any", 2, []int{1000000}},
	} {
		l := steps(t, c.l)
		if n := proof.Steps(l); n != c.n {
			t.Errorf("%s: %d steps", c.l, n)
		}
		if uses := proof.Uses(l); !slices.Equal(uses, c.uses) {
			t.Errorf("%s: uses %v", c.l, uses)
		}
	}
	l := []api.Deduction{{}, {Rule: 99, N: 5}, {Rule: api.ByGiven, N: -4, Args: []int{7}}, {Rule: api.ByGiven, N: math.MaxInt}, {Rule: api.ByGiven, N: -4}, {Rule: api.ByPublic, N: 8}, {Rule: -1, N: 6}}
	if n, uses := proof.Steps(l), proof.Uses(l); n != 3 || !slices.Equal(uses, []int{-4, math.MaxInt}) {
		t.Errorf("%d, %v", n, uses)
	}
	for rule := -1; rule < 20; rule++ {
		want := 1
		if rule == api.ByGiven || rule == api.ByPublic {
			want = 0
		}
		if n := proof.Steps([]api.Deduction{{Rule: rule}}); n != want {
			t.Errorf("rule %d: %d", rule, n)
		}
	}
}

// P11.1: Join leaves out the steps by which the conclusion is given.
func TestJoin(t *testing.T) {
	for _, c := range []struct{ l, m, want string }{
		{"given 0: a:any", "given 1: b:any", "given 0: a:any; given 1: b:any"},
		{"given 0: a:any", "given 1: a:any", "given 0: a:any"},
		{"given 0: a:any", "given 1: b:any; given 1: a:any", "given 0: a:any"},
		{"given 0: a:any", "given 1: a:any; given 1: b:any", "given 0: a:any; given 1: b:any"},
		{"given 0: a:any; hash 0: hash(a:any)", "given 0: b:any; given 1: hash(a:any); pair 1 0: pair(hash(a:any), b:any)", "given 0: a:any; hash 0: hash(a:any); given 0: b:any; pair 1 2: pair(hash(a:any), b:any)"},
		{"given 0: a:any; hash 0: hash(a:any)", "given 7: hash(a:any); hash 0: c:any; given 8: hash(a:any); given 9: a:any; sum 3 2 1 0 3: d:any", "given 0: a:any; hash 0: hash(a:any); hash 1: c:any; given 9: a:any; sum 3 1 2 1 3: d:any"},
		{"public: a:agent", "public: a:agent; hash 0: hash(a:agent)", "public: a:agent; public: a:agent; hash 1: hash(a:agent)"},
		{"given 0: a:any", "given 0: a:nonce; hash 0: hash(a:nonce)", "given 0: a:any; given 0: a:nonce; hash 1: hash(a:nonce)"},
		{"given 0: a:any; given 1: b:any", "given 0: a:any; given 1: b:any; product 0^3 1^-1: c:any", "given 0: a:any; given 1: b:any; given 0: a:any; product 2^3 1^-1: c:any"},
		{"given 0: a:any; hash 0: b:any", "given 4: b:any; power 0 0^2 0^-5: c:any; given 5: b:any; power 1 2^1 0^1: d:any", "given 0: a:any; hash 0: b:any; power 1 1^2 1^-5: c:any; power 2 1^1 1^1: d:any"},
	} {
		l, m := steps(t, c.l), steps(t, c.m)
		before := show(l) + show(m)
		got, e := proof.Join(l, m)
		if e != api.OK || !sameSteps(got, steps(t, c.want)) {
			t.Errorf("%s and %s: %v\n%s", c.l, c.m, e, lines(got))
		}
		isNew(t, c.l+" and "+c.m, got, slices.Concat(memory(l), memory(m))...)
		if show(l)+show(m) != before {
			t.Errorf("%s and %s: an argument has changed", c.l, c.m)
		}
	}
}

// P11.1: in m, elements of Args that are not earlier indices become -1.
func TestJoinOfOtherLists(t *testing.T) {
	a, b := atom("a", api.SortAny), atom("b", api.SortAny)
	l := []api.Deduction{{Rule: api.ByGiven, Term: b}, {Rule: api.ByGiven, Term: a}}
	m := []api.Deduction{{Rule: 33, N: 4, Coeffs: []int{5}, Term: b}, {Rule: api.ByGiven, Args: []int{0}, Term: a}, {Args: []int{-1, 0, 1, 2, 3, 400, math.MinInt, math.MaxInt}}, {Rule: api.BySum, Args: []int{2, 3}}}
	want := []api.Deduction{l[0], l[1], m[0], {Args: []int{-1, 2, 1, -1, -1, -1, -1, -1}}, {Rule: api.BySum, Args: []int{3, -1}}}
	if got, e := proof.Join(l, m); e != api.OK || !sameSteps(got, want) {
		t.Errorf("%v, %s", e, show(got))
	}
	// The conclusion may be any term.
	l = []api.Deduction{{Term: api.Term{Kind: 9, Name: "?"}}}
	if got, e := proof.Join(l, []api.Deduction{{Rule: api.ByGiven, Term: l[0].Term}}); e != api.OK || !sameSteps(got, l) {
		t.Errorf("%v, %s", e, show(got))
	}
}

// P11.1: the errors of Join.
func TestJoinErrors(t *testing.T) {
	a, b := atom("a", api.SortAny), atom("b", api.SortAny)
	one, other := api.Deduction{Rule: api.ByGiven, Term: a}, api.Deduction{Rule: api.ByGiven, Term: b}
	repeat := func(d api.Deduction, n int) []api.Deduction { return slices.Repeat([]api.Deduction{d}, n) }
	for what, c := range map[string]struct {
		l, m []api.Deduction
		n    int
		want api.Errno
	}{
		"no steps":                       {nil, nil, 0, api.ErrEmpty},
		"no steps of l":                  {nil, repeat(one, 1), 0, api.ErrEmpty},
		"no steps of m":                  {repeat(one, 1), []api.Deduction{}, 0, api.ErrEmpty},
		"no steps of l, 401 of m":        {nil, repeat(one, 401), 0, api.ErrEmpty},
		"400 steps":                      {repeat(one, 300), repeat(other, 100), 400, api.OK},
		"401 steps":                      {repeat(one, 300), repeat(other, 101), 0, api.ErrTooLarge},
		"401 steps of m":                 {repeat(one, 1), repeat(other, 401), 0, api.ErrTooLarge},
		"401 steps of l":                 {repeat(one, 401), repeat(other, 1), 0, api.ErrTooLarge},
		"400 and many that are left out": {repeat(one, 399), append(repeat(one, 1000), other), 400, api.OK},
		"400, the last one left out":     {repeat(one, 400), append(repeat(other, 1000), one), 400, api.OK},
		"401, the last one left out":     {repeat(one, 401), repeat(one, 1), 0, api.ErrTooLarge},
	} {
		got, e := proof.Join(c.l, c.m)
		if e != c.want || len(got) != c.n {
			t.Errorf("%s: %v, %d", what, e, len(got))
		}
	}
}

// P11.1: Trim, Steps, Uses and Join are as the definitions say, on random lists,
// right or not.
func TestListsOfRandomSteps(t *testing.T) {
	r := rand.New(rand.NewPCG(5, 5))
	shorter, joined := 0, 0
	for range 20000 {
		l, m := randomSteps(r, 8), randomSteps(r, 8)
		got := proof.Trim(l)
		if !sameSteps(got, refTrim(l)) {
			t.Fatalf("Trim: %s\n%s", show(l), show(got))
		}
		if len(got) < len(l) {
			shorter++
		}
		isNew(t, "Trim", got, memory(l)...)
		n, uses := 0, []int{}
		for _, d := range l {
			if d.Rule != 1 && d.Rule != 2 {
				n++
			}
			if d.Rule == 1 && !slices.Contains(uses, d.N) {
				uses = append(uses, d.N)
			}
		}
		slices.Sort(uses)
		if proof.Steps(l) != n || !slices.Equal(proof.Uses(l), uses) {
			t.Fatalf("%s: %d, %v", show(l), proof.Steps(l), proof.Uses(l))
		}
		both, e := proof.Join(l, m)
		want, f := refJoin(l, m)
		if e != f || !sameSteps(both, want) {
			t.Fatalf("Join: %s\n%s\n%v, %s", show(l), show(m), e, show(both))
		}
		isNew(t, "Join", both, slices.Concat(memory(l), memory(m))...)
		if e == api.OK && len(both) < len(l)+len(m) {
			joined++
		}
	}
	if shorter < 1000 || joined < 1000 {
		t.Errorf("%d and %d cases only", shorter, joined)
	}
}
