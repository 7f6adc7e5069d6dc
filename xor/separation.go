package xor

import (
	"slices"

	"sealring/api"
	"sealring/term"
)

// Refute returns a separation of t from the span of a list.
func Refute(l []api.Term, t api.Term) ([]api.Term, api.Errno) {
	if e := spanError(l, t); e != api.OK {
		return nil, e
	}
	found := eliminate(l, t)
	column := found.reduced(t, len(l)).summands.first()
	if column == none {
		return nil, api.ErrExists
	}
	return found.separation(column), api.OK
}

// separation returns a separation for a term that has a column left. All pivots
// have an even number of these summands, and so have their sums: the elements,
// and what was added to the term. Of what is left of it, only this column is
// among them.
func (e *elimination) separation(column int) []api.Term {
	chosen := []int{column}
	for _, p := range e.pivots {
		if p.summands.has(column) {
			chosen = append(chosen, p.column)
		}
	}
	slices.Sort(chosen)
	var r []api.Term
	for _, i := range chosen {
		r = append(r, e.columns[i])
	}
	return copies(r)
}

// CheckRefute reports whether r is a separation for t.
func CheckRefute(l []api.Term, t api.Term, r []api.Term) bool {
	if len(r) > api.MaxTerms || spanError(l, t) != api.OK || !isAscending(r) {
		return false
	}
	for i := range l {
		if hasOdd(l[i], r) {
			return false
		}
	}
	return hasOdd(t, r)
}

// hasOdd reports whether an odd number of summands of t are among the terms of
// r, which ascend.
func hasOdd(t api.Term, r []api.Term) bool {
	odd := false
	for _, s := range summands(t) {
		if _, found := slices.BinarySearchFunc(r, s, term.Compare); found {
			odd = !odd
		}
	}
	return odd
}
