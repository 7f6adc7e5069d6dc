package proof

import (
	"slices"

	"sealring/api"
)

// A row says which places of summands without a step are left of a term, or of
// a sum of terms, if the terms at the places of args are added. Both ascend.
type row struct {
	args []int
	left []int
}

// plus returns the sum of two rows.
func (r row) plus(s row) row {
	return row{args: difference(r.args, s.args), left: difference(r.left, s.left)}
}

// difference returns what is in exactly one of two ascending lists.
func difference(a, b []int) []int {
	var l []int
	for len(a) > 0 && len(b) > 0 {
		switch {
		case a[0] < b[0]:
			l = append(l, a[0])
			a = a[1:]
		case a[0] > b[0]:
			l = append(l, b[0])
			b = b[1:]
		default:
			a, b = a[1:], b[1:]
		}
	}
	return slices.Concat(l, a, b)
}

// reduced adds pivots to a row. No pivot has the first place that is left of an
// earlier one, so that nothing is left of the row exactly if it is a sum of
// pivots.
func reduced(r row, pivots []row) row {
	for _, p := range pivots {
		if slices.Contains(r.left, p.left[0]) {
			r = r.plus(p)
		}
	}
	return r
}

// rowOf returns what is left of a term if its summands that have steps are
// added.
func (b *builder) rowOf(i int) row {
	summands := []int{i}
	if applies(&b.terms[i], sum) {
		summands = b.kids[i]
	}
	var r row
	for _, s := range summands {
		if b.has(s) {
			r.args = append(r.args, s)
		} else {
			r.left = append(r.left, s)
		}
	}
	return r
}

// addSums follows the rule of sums, and reports whether there is anything new.
// There is one elimination for all terms: xor.Span would begin anew with each.
func (b *builder) addSums() bool {
	var pivots []row
	var asked []int
	for _, i := range b.sums {
		if !b.has(i) {
			asked = append(asked, i)
			continue
		}
		asked = append(asked, b.kids[i]...)
		r := reduced(b.rowOf(i).plus(row{args: []int{i}}), pivots)
		if len(r.left) > 0 {
			pivots = append(pivots, r)
		}
	}
	before := len(b.steps)
	for _, i := range distinct(asked) {
		if b.has(i) {
			continue
		}
		if r := reduced(b.rowOf(i), pivots); len(r.left) == 0 {
			b.add(i, api.Deduction{Rule: api.BySum}, r.args...)
		}
	}
	return len(b.steps) > before
}
