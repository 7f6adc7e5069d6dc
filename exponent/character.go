package exponent

import (
	"sealring/api"
)

// maxModulus is the greatest modulus of a character that Refute returns: the
// product of two numbers below it is an int, too.
const maxModulus = 1 << 30

// Refute returns a character that refutes that m is generated.
func Refute(l [][]api.Power, m []api.Power) (api.Character, api.Errno) {
	found, e := eliminate(l, m)
	if e != api.OK {
		return api.Character{}, e
	}
	if found.failed == none {
		return api.Character{}, api.ErrExists
	}
	mod := found.modulus()
	if mod > maxModulus {
		return api.Character{}, api.ErrTooLarge
	}
	return found.character(mod), api.OK
}

// character returns the character of an elimination that fails, for its
// modulus. The values of all generators are 0 if those of the pivots are.
//
// The failed column gets the value 1, the columns behind it 0. Then, from it
// backwards, each column with a pivot gets the value that makes that of the
// pivot 0. This would need a division by the number of the pivot, so that all
// values behind are multiplied by it instead. At last, the failed column has
// the product of the numbers of the earlier pivots as its value.
func (e *elimination) character(mod int) api.Character {
	values := make([]int, e.failed+1)
	values[e.failed] = 1
	for column := e.failed - 1; column >= 0; column-- {
		pivot := e.pivots[column]
		if pivot == nil {
			continue
		}
		sum := 0
		for i := column + 1; i <= e.failed; i++ {
			sum = (sum + values[i]*residue(pivot[i], mod)) % mod
			values[i] = values[i] * residue(pivot[column], mod) % mod
		}
		values[column] = residue(-sum, mod)
	}
	c := api.Character{Mod: mod}
	for i, n := range values {
		if n != 0 {
			c.Values = append(c.Values, api.Power{Term: copyOf(&e.columns[i].Term), N: n})
		}
	}
	return c
}

// modulus returns the modulus of the character of an elimination that fails,
// or a number that is greater than maxModulus, if it is too great.
func (e *elimination) modulus() int {
	pivot := e.pivots[e.failed]
	if pivot == nil {
		return e.leastModulus()
	}
	// The value of this pivot is the product of its number and of those of the
	// earlier pivots: this is to be 0, too.
	mod := absolute(pivot[e.failed])
	for _, n := range e.earlierNumbers() {
		if absolute(n) > maxModulus/mod {
			return maxModulus + 1
		}
		mod *= absolute(n)
	}
	return mod
}

// leastModulus returns the least modulus for which the value of m is not 0,
// where the failed column has no pivot. It is small: the value is, before it is
// taken modulo anything, the product of at most 12 numbers up to 2^40, and no
// such product but 0 is a multiple of all numbers up to 400.
func (e *elimination) leastModulus() int {
	mod := 2
	for e.valueOfProduct(mod) == 0 {
		mod++
	}
	return mod
}

// valueOfProduct returns the value of m for a modulus: that of what is left of
// its row.
func (e *elimination) valueOfProduct(mod int) int {
	value := residue(e.last[e.failed], mod)
	for _, n := range e.earlierNumbers() {
		value = value * residue(n, mod) % mod
	}
	return value
}

// earlierNumbers returns the numbers of the pivots of the columns before the
// one at which the elimination fails.
func (e *elimination) earlierNumbers() []int {
	var l []int
	for column, pivot := range e.pivots[:e.failed] {
		if pivot != nil {
			l = append(l, pivot[column])
		}
	}
	return l
}

// residue returns the number from 0 to mod-1 that is equal to n modulo mod.
func residue(n, mod int) int {
	n %= mod
	if n < 0 {
		n += mod
	}
	return n
}

// CheckRefute reports whether a character refutes that m is generated.
func CheckRefute(l [][]api.Power, m []api.Power, c api.Character) bool {
	if productsError(l, m) != api.OK {
		return false
	}
	if c.Mod != 0 && (c.Mod < 2 || c.Mod > maxCoefficient) || powersError(c.Values, maxCoefficient) != api.OK {
		return false
	}
	for _, generator := range l {
		if !vanishes(c, generator) {
			return false
		}
	}
	return !vanishes(c, m)
}

// vanishes reports whether the value of a product is 0 by a character.
func vanishes(c api.Character, l []api.Power) bool {
	sum := 0
	for _, p := range l {
		sum += powerOf(c.Values, p.Term) * p.N
	}
	if c.Mod == 0 {
		return sum == 0
	}
	return sum%c.Mod == 0
}
