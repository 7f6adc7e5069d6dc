package term_test

import (
	"slices"
	"testing"

	"sealring/api"
	"sealring/term"
)

func samePositions(a, b [][]int) bool {
	return slices.EqualFunc(a, b, slices.Equal[[]int])
}

// P1.1: positions are listed in preorder.
func TestPositions(t *testing.T) {
	odd := api.Term{Kind: api.TermVar, Kids: []api.Term{{}, {Kind: 7, Kids: []api.Term{{}}}}}
	for _, c := range []struct {
		t    api.Term
		want [][]int
	}{
		{must(t, "a:any"), [][]int{{}}},
		{must(t, "f()"), [][]int{{}}},
		{must(t, "pair(?x, a:nonce)"), [][]int{{}, {0}, {1}}},
		{must(t, "f(g(a:any, h(?x)), b:any, k(c:any))"), [][]int{{}, {0}, {0, 0}, {0, 1}, {0, 1, 0}, {1}, {2}, {2, 0}}},
		{odd, [][]int{{}, {0}, {1}, {1, 0}}},
	} {
		if l := term.Positions(c.t); !samePositions(l, c.want) {
			t.Errorf("%s: %v", show(c.t), l)
		}
	}
}

// P1.1: positions share no memory, not even beyond their ends.
func TestPositionsShareNothing(t *testing.T) {
	x := must(t, "f(g(a:any, h(?x, ?y)), b:any, k(c:any))")
	l, want := term.Positions(x), term.Positions(x)
	for i := range l {
		whole := l[i][:cap(l[i])]
		for k := range whole {
			whole[k] = -1
		}
		if !samePositions(l[i+1:], want[i+1:]) {
			t.Fatalf("a change of position %d changes others", i)
		}
	}
}

// P1.1: At and Replace at all kinds of positions.
func TestAtAndReplace(t *testing.T) {
	x := must(t, "f(g(a:any, ?x), b:any)")
	u := must(t, "h(c:any)")
	for _, c := range []struct {
		p        []int
		at, with string
	}{
		{nil, "f(g(a:any, ?x), b:any)", "h(c:any)"},
		{[]int{}, "f(g(a:any, ?x), b:any)", "h(c:any)"},
		{[]int{0}, "g(a:any, ?x)", "f(h(c:any), b:any)"},
		{[]int{0, 0}, "a:any", "f(g(h(c:any), ?x), b:any)"},
		{[]int{0, 1}, "?x", "f(g(a:any, h(c:any)), b:any)"},
		{[]int{1}, "b:any", "f(g(a:any, ?x), h(c:any))"},
	} {
		if a, e := term.At(x, c.p); e != api.OK || !same(a, must(t, c.at)) {
			t.Errorf("At %v: %s, %v", c.p, show(a), e)
		}
		if r, e := term.Replace(x, c.p, u); e != api.OK || !same(r, must(t, c.with)) {
			t.Errorf("Replace at %v: %s, %v", c.p, show(r), e)
		}
	}
}

// P1.1: where there is no such position, there is ErrRange and no term.
func TestNoSuchPosition(t *testing.T) {
	x := must(t, "f(g(a:any, ?x), b:any)")
	for _, p := range [][]int{{2}, {-1}, {0, 2}, {0, -1}, {1, 0}, {0, 0, 0}, {0, 1, 0}, {5, 0}, {-1, 0}, {1 << 62}, {-1 << 63}} {
		if a, e := term.At(x, p); e != api.ErrRange || !same(a, api.Term{}) {
			t.Errorf("At %v: %s, %v", p, show(a), e)
		}
		if r, e := term.Replace(x, p, x); e != api.ErrRange || !same(r, api.Term{}) {
			t.Errorf("Replace at %v: %s, %v", p, show(r), e)
		}
	}
	if _, e := term.At(app("f"), []int{0}); e != api.ErrRange {
		t.Errorf("kid of an application without kids: %v", e)
	}
}

// P1.1: neither the terms nor the result have to be valid.
func TestPositionsOfInvalidTerms(t *testing.T) {
	odd := api.Term{Kind: api.TermAtom, Kids: []api.Term{{Kind: -1, Kids: []api.Term{{Sort: 8}}}}}
	if a, e := term.At(odd, []int{0, 0}); e != api.OK || !same(a, api.Term{Sort: 8}) {
		t.Errorf("At: %s, %v", show(a), e)
	}
	want := api.Term{Kind: api.TermAtom, Kids: []api.Term{{Kind: -1, Kids: []api.Term{odd}}}}
	if r, e := term.Replace(odd, []int{0, 0}, odd); e != api.OK || !same(r, want) {
		t.Errorf("Replace: %s, %v", show(r), e)
	}
	high := tower(40, atom("a", api.SortAny))
	if r, e := term.Replace(high, make([]int, 39), high); e != api.OK || term.Depth(r) != 79 {
		t.Errorf("Replace: depth %d, %v", term.Depth(r), e)
	}
}

// related reports whether one of two positions is above the other one, or
// the same.
func related(p, q []int) bool {
	n := min(len(p), len(q))
	return slices.Equal(p[:n], q[:n])
}

// P1.2: what is replaced stands there, and the other positions keep their
// subterms.
func TestReplaceKeepsTheRest(t *testing.T) {
	l := samples(60, 4)
	for i, x := range l {
		u := l[(i*7+3)%len(l)]
		for _, p := range term.Positions(x) {
			r, e := term.Replace(x, p, u)
			there, f := term.At(r, p)
			if e != api.OK || f != api.OK || !same(there, u) {
				t.Fatalf("%s at %v: %s, %v, %v", show(x), p, show(there), e, f)
			}
			for _, q := range term.Positions(x) {
				a, _ := term.At(x, q)
				b, f := term.At(r, q)
				if !related(p, q) && (f != api.OK || !same(a, b)) {
					t.Fatalf("%s at %v, %v: %s, %v", show(x), p, q, show(b), f)
				}
			}
			if term.Size(r) != term.Size(x)-sizeAt(x, p)+term.Size(u) {
				t.Fatalf("%s at %v: size %d", show(x), p, term.Size(r))
			}
		}
	}
}

func sizeAt(x api.Term, p []int) int {
	u, _ := term.At(x, p)
	return term.Size(u)
}

// P1.1: results share no memory with arguments, which do not change.
func TestAtAndReplaceShareNothing(t *testing.T) {
	x := must(t, "f(g(a:any, h(?x)), k(b:any))")
	before := show(x)
	for _, p := range term.Positions(x) {
		at := slices.Clone(p)
		a, _ := term.At(x, p)
		apart(t, "At", a, x)
		r, _ := term.Replace(x, p, x)
		apart(t, "Replace", r, x)
		if show(x) != before || !slices.Equal(p, at) {
			t.Fatal("an argument has changed")
		}
	}
}
