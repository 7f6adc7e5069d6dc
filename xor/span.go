package xor

import (
	"slices"

	"sealring/api"
)

// Rank returns the number of elements in the basis of a list.
func Rank(l []api.Term) (int, api.Errno) {
	basis, e := Basis(l)
	return len(basis), e
}

// Basis returns the indices of the elements of a list that are not in the span
// of the elements before them.
func Basis(l []api.Term) ([]int, api.Errno) {
	if e := listError(l); e != api.OK {
		return nil, e
	}
	var basis []int
	for _, p := range eliminate(l).pivots {
		basis = append(basis, p.element)
	}
	return basis, api.OK
}

// Span returns the indices of elements of a list whose sum is t.
func Span(l []api.Term, t api.Term) ([]int, api.Errno) {
	if e := spanError(l, t); e != api.OK {
		return nil, e
	}
	// What has been added to t so that nothing is left is a choice for it.
	left := eliminate(l, t).reduced(t, len(l))
	if left.summands.first() != none {
		return nil, api.ErrNotFound
	}
	return left.elements.ones(), api.OK
}

// Check reports whether c is a choice for t.
func Check(l []api.Term, t api.Term, c []int) bool {
	if spanError(l, t) != api.OK || !areIndices(c, len(l)) {
		return false
	}
	chosen := make([]api.Term, len(c))
	for k, i := range c {
		chosen[k] = l[i]
	}
	return slices.EqualFunc(summands(chosen...), summands(t), equal)
}

// areIndices reports whether c has indices of a list of n elements, strictly
// ascending.
func areIndices(c []int, n int) bool {
	for k, i := range c {
		if i < 0 || i >= n || k > 0 && i <= c[k-1] {
			return false
		}
	}
	return true
}
