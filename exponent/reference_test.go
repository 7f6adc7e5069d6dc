package exponent_test

import (
	"math/big"
	"slices"

	"sealring/api"
	"sealring/term"
)

// Here the definitions are followed word by word, with integers of any size.

// number returns an integer.
func number(n int) *big.Int {
	return big.NewInt(int64(n))
}

// twoTo returns 2 to the power n.
func twoTo(n uint) *big.Int {
	return new(big.Int).Lsh(number(1), n)
}

// refFactor reports whether a valid term is a factor.
func refFactor(t api.Term) bool {
	return t.Kind != api.TermApp || !slices.Contains([]string{"mul", "inv", "one"}, t.Name)
}

// refProduct returns the error of a product.
func refProduct(l []api.Power) api.Errno {
	if len(l) > 200 {
		return api.ErrTooLarge
	}
	for i, p := range l {
		switch {
		case term.Valid(p.Term) != api.OK:
			return term.Valid(p.Term)
		case !refFactor(p.Term):
			return api.ErrInvalid
		case p.N < -1000 || p.N > 1000 || p.N == 0:
			return api.ErrRange
		case i > 0 && term.Compare(p.Term, l[i-1].Term) != 1:
			return api.ErrExists
		}
	}
	return api.OK
}

// refPower returns the power of a factor in a product, which need not be
// sorted.
func refPower(l []api.Power, factor api.Term) *big.Int {
	sum := number(0)
	for _, p := range l {
		if same(p.Term, factor) {
			sum.Add(sum, number(p.N))
		}
	}
	return sum
}

// refFactors returns all factors of some products, in order.
func refFactors(products ...[]api.Power) []api.Term {
	var all []api.Term
	for _, p := range slices.Concat(products...) {
		if !slices.ContainsFunc(all, func(t api.Term) bool { return same(p.Term, t) }) {
			all = append(all, p.Term)
		}
	}
	slices.SortFunc(all, term.Compare)
	return all
}

// refMul multiplies lists of powers in the group, without any limits.
func refMul(products ...[]api.Power) []api.Power {
	var l []api.Power
	for _, f := range refFactors(products...) {
		n := refPower(slices.Concat(products...), f)
		if n.Sign() != 0 {
			l = append(l, api.Power{Term: f, N: int(n.Int64())})
		}
	}
	return l
}

// refInverse negates powers.
func refInverse(l []api.Power) []api.Power {
	m := slices.Clone(l)
	for i := range m {
		m[i].N = -m[i].N
	}
	return m
}

// refOf returns the product of a valid term, and whether the symbols have the
// right numbers of kids.
func refOf(t api.Term) ([]api.Power, bool) {
	switch {
	case refFactor(t):
		return []api.Power{{Term: t, N: 1}}, true
	case t.Name == "one":
		return nil, len(t.Kids) == 0
	case t.Name == "inv":
		if len(t.Kids) != 1 {
			return nil, false
		}
		l, ok := refOf(t.Kids[0])
		return refInverse(l), ok
	}
	var l []api.Power
	ok := len(t.Kids) >= 2
	for _, kid := range t.Kids {
		m, right := refOf(kid)
		l, ok = refMul(l, m), ok && right
	}
	return l, ok
}

// refCheck is Check.
func refCheck(l [][]api.Power, m []api.Power, c []int) bool {
	if len(c) != len(l) || len(l) > 200 || refProduct(m) != api.OK {
		return false
	}
	for i, generator := range l {
		if refProduct(generator) != api.OK || number(c[i]).CmpAbs(twoTo(45)) > 0 {
			return false
		}
	}
	for _, f := range refFactors(append(slices.Clone(l), m)...) {
		sum := number(0)
		for i, generator := range l {
			sum.Add(sum, new(big.Int).Mul(number(c[i]), refPower(generator, f)))
		}
		if sum.Cmp(refPower(m, f)) != 0 {
			return false
		}
	}
	return true
}

// refVanishes reports whether the value of a product is 0.
func refVanishes(c api.Character, l []api.Power) bool {
	sum := number(0)
	for _, p := range l {
		sum.Add(sum, new(big.Int).Mul(number(p.N), refPower(c.Values, p.Term)))
	}
	if c.Mod != 0 {
		sum.Rem(sum, number(c.Mod))
	}
	return sum.Sign() == 0
}

// refCheckRefute is CheckRefute.
func refCheckRefute(l [][]api.Power, m []api.Power, c api.Character) bool {
	if refProduct(m) != api.OK || len(c.Values) > 200 {
		return false
	}
	if c.Mod < 0 || c.Mod == 1 || number(c.Mod).Cmp(twoTo(45)) > 0 {
		return false
	}
	for i, p := range c.Values {
		if term.Valid(p.Term) != api.OK || !refFactor(p.Term) || p.N == 0 || number(p.N).CmpAbs(twoTo(45)) > 0 {
			return false
		}
		if i > 0 && term.Compare(c.Values[i-1].Term, p.Term) != -1 {
			return false
		}
	}
	for _, generator := range l {
		if refProduct(generator) != api.OK || !refVanishes(c, generator) {
			return false
		}
	}
	return !refVanishes(c, m)
}

// A refElimination is an elimination with its result.
type refElimination struct {
	columns  []api.Term
	rows     [][]*big.Int
	pivots   map[int]int // of columns
	tooLarge bool
	failed   int // -1: it does not fail
}

// refEliminate eliminates, for at most 12 valid generators.
func refEliminate(l [][]api.Power, m []api.Power) *refElimination {
	e := &refElimination{columns: refFactors(append(slices.Clone(l), m)...), pivots: map[int]int{}, failed: -1}
	row := func(p []api.Power, own int) []*big.Int {
		var r []*big.Int
		for _, f := range e.columns {
			r = append(r, refPower(p, f))
		}
		for i := range l {
			r = append(r, number(0))
			if i == own {
				r[len(r)-1] = number(1)
			}
		}
		return r
	}
	for i, generator := range l {
		e.rows = append(e.rows, row(generator, i))
	}
	for column := range e.columns {
		e.clear(column)
	}
	last := row(m, -1)
	for column := range e.columns {
		i, found := e.pivots[column]
		if last[column].Sign() == 0 {
			continue
		}
		if !found || new(big.Int).Rem(last[column], e.rows[i][column]).Sign() != 0 {
			e.failed = column
			break
		}
		e.subtract(last, e.rows[i], new(big.Int).Quo(last[column], e.rows[i][column]))
	}
	return e
}

// clear finds the pivot of a column.
func (e *refElimination) clear(column int) {
	for {
		var with []int
		for i, row := range e.rows {
			pivot := false
			for _, k := range e.pivots {
				pivot = pivot || k == i
			}
			if !pivot && row[column].Sign() != 0 {
				with = append(with, i)
			}
		}
		if len(with) == 0 || e.tooLarge {
			return
		}
		if len(with) == 1 {
			e.pivots[column] = with[0]
			return
		}
		least := slices.MinFunc(with, func(i, k int) int { return e.rows[i][column].CmpAbs(e.rows[k][column]) })
		for _, i := range with {
			if i != least {
				e.subtract(e.rows[i], e.rows[least], new(big.Int).Quo(e.rows[i][column], e.rows[least][column]))
			}
		}
	}
}

// subtract subtracts n times a row.
func (e *refElimination) subtract(from, row []*big.Int, n *big.Int) {
	for i := range from {
		from[i] = new(big.Int).Sub(from[i], new(big.Int).Mul(n, row[i]))
		e.tooLarge = e.tooLarge || from[i].CmpAbs(twoTo(40)) > 0
	}
}

// refErrors returns the errors of Member and Refute for at most 12 valid
// generators.
func refErrors(l [][]api.Power, m []api.Power) (member, refute api.Errno) {
	if len(refFactors(append(slices.Clone(l), m)...)) > 12 {
		return api.ErrTooLarge, api.ErrTooLarge
	}
	e := refEliminate(l, m)
	if e.tooLarge {
		return api.ErrTooLarge, api.ErrTooLarge
	}
	if e.failed == -1 {
		return api.OK, api.ErrExists
	}
	if _, found := e.pivots[e.failed]; !found {
		return api.ErrNotFound, api.OK
	}
	size := number(1)
	for column, i := range e.pivots {
		if column <= e.failed {
			size.Mul(size, e.rows[i][column])
		}
	}
	if size.CmpAbs(twoTo(30)) > 0 {
		return api.ErrNotFound, api.ErrTooLarge
	}
	return api.ErrNotFound, api.OK
}
