package refute

import (
	"slices"

	"sealring/api"
)

// A span knows which terms are sums of those of a set. Summands in the set can
// always be added once more, so that only the others count. There is one
// elimination for all questions: xor.Span would begin anew with each.
type span struct {
	columns []api.Term // the summands that count, in order
	pivots  []pivot
}

// A pivot is a sum of terms of the set. Later pivots do not have its column.
type pivot struct {
	row    []bool // by columns: whether it has this summand
	column int
}

// spanOfSums returns the span of a set.
func (s *set) spanOfSums() span {
	var sums [][]api.Term
	for i := range s.terms {
		if applies(&s.terms[i], sum) {
			sums = append(sums, s.unknownSummands(&s.terms[i]))
		}
	}
	p := span{columns: inOrder(slices.Concat(sums...))}
	for _, summands := range sums {
		row, _ := p.reduced(summands)
		if column := slices.Index(row, true); column >= 0 {
			p.pivots = append(p.pivots, pivot{row, column})
		}
	}
	return p
}

// unknownSummands returns the summands of a plain term that are not in the set.
// Nobody asks for those of zero(), which is public.
func (s *set) unknownSummands(t *api.Term) []api.Term {
	if applies(t, sum) {
		return s.missing(t.Kids)
	}
	return s.missing([]api.Term{*t})
}

// adds reports whether rule 3 leads to a term.
func (s *set) adds(t *api.Term) bool {
	row, ok := s.span.reduced(s.unknownSummands(t))
	return ok && !slices.Contains(row, true)
}

// reduced returns what is left of a sum if the pivots are added that take their
// columns out of it: nothing, if the sum is in the span. It returns false for a
// summand without a column, which no pivot takes out.
func (p *span) reduced(summands []api.Term) ([]bool, bool) {
	row := make([]bool, len(p.columns))
	for i := range summands {
		column, found := placeOf(p.columns, &summands[i])
		if !found {
			return nil, false
		}
		row[column] = true
	}
	for _, v := range p.pivots {
		if row[v.column] {
			for i, has := range v.row {
				row[i] = row[i] != has
			}
		}
	}
	return row, true
}
