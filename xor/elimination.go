package xor

import (
	"slices"

	"sealring/api"
	"sealring/term"
)

// An elimination finds out which sums the elements of a list have.
type elimination struct {
	columns []api.Term // all summands, ascending
	pivots  []pivot    // one for each element of the basis, ascending
}

// A row says of a term what it has as its summands, and which elements of the
// list have been added to it.
type row struct {
	summands vector // of columns
	elements vector // of indices of the list
}

// A pivot is a sum of some elements, with a column that no other pivot has.
type pivot struct {
	row
	column  int
	element int // of the basis, which has led to it
}

// eliminate finds the pivots of a list. Its columns have room for the summands
// of further terms, too.
func eliminate(l []api.Term, further ...api.Term) *elimination {
	e := &elimination{columns: columnsOf(slices.Concat(l, further))}
	for i := range l {
		r := e.reduced(l[i], len(l))
		if column := r.summands.first(); column != none {
			r.elements.set(i)
			e.include(pivot{row: r, column: column, element: i})
		}
	}
	return e
}

// columnsOf returns the summands of all terms of a list, in ascending order.
func columnsOf(l []api.Term) []api.Term {
	var all []api.Term
	for i := range l {
		all = append(all, summands(l[i])...)
	}
	slices.SortFunc(all, term.Compare)
	return slices.CompactFunc(all, equal)
}

// include adds a pivot, and takes its column out of the earlier ones.
func (e *elimination) include(p pivot) {
	for _, earlier := range e.pivots {
		if earlier.summands.has(p.column) {
			earlier.row.add(p.row)
		}
	}
	e.pivots = append(e.pivots, p)
}

// reduced returns the row of t with the pivots added that take their columns
// out of it. The list has n elements.
func (e *elimination) reduced(t api.Term, n int) row {
	r := row{summands: e.vectorOf(t), elements: newVector(n)}
	for _, p := range e.pivots {
		if r.summands.has(p.column) {
			r.add(p.row)
		}
	}
	return r
}

// vectorOf returns the vector of the summands of a term, which all have columns.
func (e *elimination) vectorOf(t api.Term) vector {
	v := newVector(len(e.columns))
	for _, s := range summands(t) {
		i, _ := slices.BinarySearchFunc(e.columns, s, term.Compare)
		v.set(i)
	}
	return v
}

func (r row) add(s row) {
	r.summands.add(s.summands)
	r.elements.add(s.elements)
}
