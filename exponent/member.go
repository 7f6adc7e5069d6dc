package exponent

import (
	"slices"

	"sealring/api"
)

// maxCoefficient is the greatest integer that Check and CheckRefute accept.
// The sum of 200 products of such integers and powers still is an int.
const maxCoefficient = 1 << 45

// Member returns the powers of the generators whose product is m.
func Member(l [][]api.Power, m []api.Power) ([]int, api.Errno) {
	found, e := eliminate(l, m)
	if e != api.OK {
		return nil, e
	}
	if found.failed != none {
		return nil, api.ErrNotFound
	}
	// The row of the product is 0 now, by what was subtracted from it.
	c := slices.Clone(found.last[len(found.columns):])
	for i := range c {
		c[i] = -c[i]
	}
	return c, api.OK
}

// Check reports whether the product of the generators to the powers c is m.
func Check(l [][]api.Power, m []api.Power, c []int) bool {
	if len(l) > api.MaxTerms || len(c) != len(l) || productsError(l, m) != api.OK {
		return false
	}
	var all []api.Power
	for i, generator := range l {
		if beyond(c[i], maxCoefficient) {
			return false
		}
		for _, p := range generator {
			all = append(all, api.Power{Term: p.Term, N: c[i] * p.N})
		}
	}
	return slices.EqualFunc(gathered(all), m, func(a, b api.Power) bool {
		return a.N == b.N && compareFactors(a, b) == 0
	})
}
