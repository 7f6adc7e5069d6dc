package exponent

import (
	"slices"

	"sealring/api"
)

// Limits of eliminations.
const (
	maxGenerators = 12
	maxColumns    = 12
	maxNumber     = 1 << 40 // the greatest absolute value of a number
)

// An elimination decides whether generators generate a product.
type elimination struct {
	columns []api.Power // a power of each factor, in ascending order
	rows    [][]int     // of each generator: its powers, then its coefficients
	isPivot []bool      // of each row
	pivots  [][]int     // of each column: its pivot, or nil
	last    []int       // the row of the product, reduced
	failed  int         // the column at which it fails, or none
}

// none stands for no row, or no column.
const none = -1

// eliminate goes through the whole elimination, for any arguments.
func eliminate(l [][]api.Power, m []api.Power) (*elimination, api.Errno) {
	if len(l) > maxGenerators {
		return nil, api.ErrTooLarge
	}
	if e := productsError(l, m); e != api.OK {
		return nil, e
	}
	e := &elimination{columns: columnsOf(l, m)}
	if len(e.columns) > maxColumns {
		return nil, api.ErrTooLarge
	}
	e.fill(l, m)
	if !e.findPivots() || !e.reduce() {
		return nil, api.ErrTooLarge
	}
	return e, api.OK
}

// columnsOf returns all factors in ascending order, each with one of its
// powers.
func columnsOf(l [][]api.Power, m []api.Power) []api.Power {
	all := append(slices.Concat(l...), m...)
	slices.SortFunc(all, compareFactors)
	return slices.CompactFunc(all, func(a, b api.Power) bool { return compareFactors(a, b) == 0 })
}

// fill writes down the rows as they are at first.
func (e *elimination) fill(l [][]api.Power, m []api.Power) {
	for i, generator := range l {
		row := e.rowOf(generator, len(l))
		row[len(e.columns)+i] = 1
		e.rows = append(e.rows, row)
	}
	e.isPivot = make([]bool, len(l))
	e.pivots = make([][]int, len(e.columns))
	e.last = e.rowOf(m, len(l))
	e.failed = none
}

// rowOf returns the row of a product, with coefficients 0.
func (e *elimination) rowOf(l []api.Power, coefficients int) []int {
	row := make([]int, len(e.columns)+coefficients)
	for i := range e.columns {
		row[i] = powerOf(l, e.columns[i].Term)
	}
	return row
}

// findPivots finds the pivots of all columns, and reports whether no number
// becomes too large.
func (e *elimination) findPivots() bool {
	for column := range e.columns {
		if !e.findPivot(column) {
			return false
		}
	}
	return true
}

// findPivot finds the pivot of a column, if there is one, by the algorithm of
// Euclid, and reports whether no number becomes too large.
func (e *elimination) findPivot(column int) bool {
	for {
		least := e.leastRow(column)
		if least == none {
			return true
		}
		alone := true
		for i, row := range e.rows {
			if i == least || e.isPivot[i] || row[column] == 0 {
				continue
			}
			alone = false
			if !subtract(row, e.rows[least], row[column]/e.rows[least][column]) {
				return false
			}
		}
		if alone {
			e.isPivot[least], e.pivots[column] = true, e.rows[least]
			return true
		}
	}
}

// leastRow returns the first row with the least absolute value in a column,
// among those that are not yet pivots and have a number other than 0 there; or
// none.
func (e *elimination) leastRow(column int) int {
	least := none
	for i, row := range e.rows {
		if e.isPivot[i] || row[column] == 0 {
			continue
		}
		if least == none || absolute(row[column]) < absolute(e.rows[least][column]) {
			least = i
		}
	}
	return least
}

// reduce reduces the row of the product until the elimination fails, or it is
// 0, and reports whether no number becomes too large.
func (e *elimination) reduce() bool {
	for column, pivot := range e.pivots {
		n := e.last[column]
		if n == 0 {
			continue
		}
		if pivot == nil || n%pivot[column] != 0 {
			e.failed = column
			return true
		}
		if !subtract(e.last, pivot, n/pivot[column]) {
			return false
		}
	}
	return true
}

// subtract subtracts n times a row from another one, and reports whether no
// number becomes too large.
func subtract(from, row []int, n int) bool {
	for i := range from {
		// A difference of more than twice the limit from a number that is not
		// too large leads to one that is, and may not even be an int.
		if row[i] != 0 && absolute(n) > 2*maxNumber/absolute(row[i]) {
			return false
		}
		from[i] -= n * row[i]
		if beyond(from[i], maxNumber) {
			return false
		}
	}
	return true
}

// absolute returns the absolute value of any number but the least int.
func absolute(n int) int {
	return max(n, -n)
}
