package xor_test

import (
	"slices"

	"sealring/api"
	"sealring/term"
)

// Here the definitions are followed word by word.

// refIsSum reports whether a valid term is a sum.
func refIsSum(t api.Term) bool {
	switch {
	case t.Kind != api.TermApp:
		return false
	case t.Name == "xor":
		return true
	}
	return t.Name == "zero" && len(t.Kids) == 0
}

// refOdd returns the terms that occur an odd number of times in a list, in
// order.
func refOdd(l []api.Term) []api.Term {
	var odd []api.Term
	for i, t := range l {
		count, first := 0, true
		for k, u := range l {
			if same(t, u) {
				count++
				first = first && k >= i
			}
		}
		if first && count%2 == 1 {
			odd = append(odd, t)
		}
	}
	slices.SortFunc(odd, term.Compare)
	return odd
}

// refParts returns the summands of a term.
func refParts(t api.Term) []api.Term {
	if !refIsSum(t) {
		return []api.Term{t}
	}
	return refAll(t.Kids)
}

// refAll returns the terms that occur an odd number of times among the summands
// of all terms of a list.
func refAll(l []api.Term) []api.Term {
	var all []api.Term
	for _, t := range l {
		all = append(all, refParts(t)...)
	}
	return refOdd(all)
}

// refSum is Sum for a list of valid terms.
func refSum(l []api.Term) (api.Term, api.Errno) {
	summands := refAll(l)
	t := app("zero")
	switch len(summands) {
	case 0:
	case 1:
		t = summands[0]
	default:
		t = app("xor", summands...)
	}
	if term.Valid(t) != api.OK {
		return api.Term{}, api.ErrTooLarge
	}
	return t, api.OK
}

// refErrors returns the error of a list, and then of single terms.
func refErrors(l []api.Term, t ...api.Term) api.Errno {
	if len(l) > 200 {
		return api.ErrTooLarge
	}
	for _, x := range append(slices.Clone(l), t...) {
		if e := term.Valid(x); e != api.OK {
			return e
		}
	}
	return api.OK
}

// refCheck is Check.
func refCheck(l []api.Term, t api.Term, c []int) bool {
	if refErrors(l, t) != api.OK {
		return false
	}
	var chosen []api.Term
	last := -1
	for _, i := range c {
		if i <= last || i >= len(l) {
			return false
		}
		last = i
		chosen = append(chosen, l[i])
	}
	return sameTerms(refAll(chosen), refParts(t))
}

// refCheckRefute is CheckRefute.
func refCheckRefute(l []api.Term, t api.Term, r []api.Term) bool {
	return len(r) <= 200 && refErrors(l, t) == api.OK && refSeparation(l, t, r)
}

// refSeparation reports whether r, of any length, is a separation for t.
func refSeparation(l []api.Term, t api.Term, r []api.Term) bool {
	for i := 1; i < len(r); i++ {
		if term.Compare(r[i-1], r[i]) != -1 {
			return false
		}
	}
	odd := func(x api.Term) bool {
		n := 0
		for _, s := range refParts(x) {
			if slices.ContainsFunc(r, func(u api.Term) bool { return same(s, u) }) {
				n++
			}
		}
		return n%2 == 1
	}
	return !slices.ContainsFunc(l, odd) && odd(t)
}

// refChoices returns all choices for t, of a short list.
func refChoices(l []api.Term, t api.Term) [][]int {
	var all [][]int
	for set := range 1 << len(l) {
		var c []int
		for i := range l {
			if set>>i&1 == 1 {
				c = append(c, i)
			}
		}
		if refCheck(l, t, c) {
			all = append(all, c)
		}
	}
	return all
}

// refSeparations counts the separations for t whose terms are among the
// summands of all terms, if these are few.
func refSeparations(l []api.Term, t api.Term) int {
	var columns []api.Term
	for _, x := range append(slices.Clone(l), t) {
		columns = append(columns, refParts(x)...)
	}
	slices.SortFunc(columns, term.Compare)
	columns = slices.CompactFunc(columns, same)
	count := 0
	for set := range 1 << len(columns) {
		var r []api.Term
		for i := range columns {
			if set>>i&1 == 1 {
				r = append(r, columns[i])
			}
		}
		if refCheckRefute(l, t, r) {
			count++
		}
	}
	return count
}

// refBasis returns the basis of a short list.
func refBasis(l []api.Term) []int {
	var basis []int
	for i, t := range l {
		if len(refChoices(l[:i], t)) == 0 {
			basis = append(basis, i)
		}
	}
	return basis
}
