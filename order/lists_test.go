package order_test

import (
	"math"
	"math/rand/v2"
	"slices"
	"testing"

	"sealring/order"
)

// P4.1: the first two numbers that differ decide, and a prefix comes first.
func TestLex(t *testing.T) {
	for _, c := range []struct {
		a, b []int
		want int
	}{
		{nil, nil, 0},
		{nil, []int{}, 0},
		{[]int{}, nil, 0},
		{[]int{1, 2}, []int{1, 2}, 0},
		{nil, []int{-1}, -1},
		{[]int{1}, []int{1, -5}, -1},
		{[]int{1, 2}, []int{1, 3}, -1},
		{[]int{1, 9}, []int{2, 0}, -1},
		{[]int{1, 9, 9}, []int{2}, -1},
		{[]int{1, 3}, []int{3, 1}, -1},
		{[]int{-1}, []int{0}, -1},
		{[]int{2}, []int{10}, -1},
		{[]int{math.MinInt}, []int{math.MaxInt}, -1},
		{[]int{0, math.MinInt}, []int{0, 1}, -1},
	} {
		if n := order.Lex(c.a, c.b); n != c.want {
			t.Errorf("%v, %v: %d", c.a, c.b, n)
		}
		if n := order.Lex(c.b, c.a); n != -c.want {
			t.Errorf("%v, %v: %d", c.b, c.a, n)
		}
	}
}

// P4.1: multisets.
func TestMultiset(t *testing.T) {
	for _, c := range []struct {
		a, b []int
		want int
	}{
		{nil, nil, 0},
		{nil, []int{}, 0},
		{[]int{1, 3}, []int{3, 1}, 0},
		{[]int{2, 1, 2}, []int{2, 2, 1}, 0},
		{[]int{1}, nil, 1},
		{[]int{-1}, nil, 1},
		{[]int{2, 2}, []int{2}, 1},
		{[]int{2, 1}, []int{2}, 1},
		{[]int{1, 1, 2}, []int{1, 2, 2}, -1},
		{[]int{3, 1}, []int{2, 2, 1}, 1},
		{[]int{3}, []int{2, 2, 2, 2, 1, 0}, 1},
		{[]int{3, 3, 1}, []int{3, 2, 2}, 1},
		{[]int{1, 5}, []int{4, 4}, 1},
		{[]int{5, 2}, []int{5, 1, 1}, 1},
		{[]int{10}, []int{9, 9}, 1},
		{[]int{-1, -1}, []int{-1, -2, -3}, 1},
		{[]int{math.MaxInt}, []int{math.MinInt, 0}, 1},
	} {
		if n := order.Multiset(c.a, c.b); n != c.want {
			t.Errorf("%v, %v: %d", c.a, c.b, n)
		}
		if n := order.Multiset(c.b, c.a); n != -c.want {
			t.Errorf("%v, %v: %d", c.b, c.a, n)
		}
	}
}

// numbers returns a short list of small numbers.
func numbers(r *rand.Rand) []int {
	l := make([]int, r.IntN(6))
	for i := range l {
		l[i] = r.IntN(5) - 2
	}
	return l
}

// refLex compares by the definition.
func refLex(a, b []int) int {
	for i := range min(len(a), len(b)) {
		if a[i] < b[i] {
			return -1
		}
		if a[i] > b[i] {
			return 1
		}
	}
	switch {
	case len(a) < len(b):
		return -1
	case len(a) > len(b):
		return 1
	}
	return 0
}

// refMultiset compares by the definition.
func refMultiset(a, b []int) int {
	a, b = slices.Clone(a), slices.Clone(b)
	for i := 0; i < len(a); {
		if k := slices.Index(b, a[i]); k >= 0 {
			a, b = slices.Delete(a, i, i+1), slices.Delete(b, k, k+1)
		} else {
			i++
		}
	}
	if len(a) == 0 && len(b) == 0 {
		return 0
	}
	for _, n := range b {
		if !slices.ContainsFunc(a, func(m int) bool { return n < m }) {
			return -1
		}
	}
	return 1
}

// P4.1: both orders of lists are what the definitions say, and leave their
// arguments as they are.
func TestListsByDefinition(t *testing.T) {
	r := rand.New(rand.NewPCG(1, 2))
	for range 50000 {
		a, b := numbers(r), numbers(r)
		c, d := slices.Clone(a), slices.Clone(b)
		if n := order.Lex(a, b); n != refLex(c, d) {
			t.Fatalf("Lex %v, %v: %d", c, d, n)
		}
		if n := order.Multiset(a, b); n != refMultiset(c, d) {
			t.Fatalf("Multiset %v, %v: %d", c, d, n)
		}
		if !slices.Equal(a, c) || !slices.Equal(b, d) {
			t.Fatalf("%v, %v have become %v, %v", c, d, a, b)
		}
	}
}

// P4.2: Multiset does not depend on the order of the numbers, of two different
// multisets one is greater, and it is transitive.
func TestMultisetConsequences(t *testing.T) {
	r := rand.New(rand.NewPCG(3, 4))
	for range 50000 {
		a, b, c := numbers(r), numbers(r), numbers(r)
		n := order.Multiset(a, b)
		if n >= 0 && order.Multiset(b, c) >= 0 && order.Multiset(a, c) != max(n, order.Multiset(b, c)) {
			t.Fatalf("not transitive: %v, %v, %v", a, b, c)
		}
		if m := order.Multiset(b, a); m != -n {
			t.Fatalf("%v, %v: %d, %d", a, b, n, m)
		}
		r.Shuffle(len(a), func(i, k int) { a[i], a[k] = a[k], a[i] })
		r.Shuffle(len(b), func(i, k int) { b[i], b[k] = b[k], b[i] })
		if m := order.Multiset(a, b); m != n {
			t.Fatalf("%v, %v: %d, but %d in another order", a, b, m, n)
		}
	}
}
