package exponent

import (
	"slices"

	"sealring/api"
)

// Mul returns the product of two products.
func Mul(a, b []api.Power) ([]api.Power, api.Errno) {
	if e := productError(a); e != api.OK {
		return nil, e
	}
	if e := productError(b); e != api.OK {
		return nil, e
	}
	l := gathered(slices.Concat(a, b))
	if tooGreat(l) {
		return nil, api.ErrRange
	}
	if len(l) > api.MaxTerms {
		return nil, api.ErrTooLarge
	}
	return scaled(l, 1), api.OK
}

// Inverse returns a list with all powers negated.
func Inverse(a []api.Power) []api.Power {
	return scaled(a, -1)
}

// Times returns the power n of a product.
func Times(a []api.Power, n int) ([]api.Power, api.Errno) {
	if e := productError(a); e != api.OK {
		return nil, e
	}
	if beyond(n, maxPower) {
		return nil, api.ErrRange
	}
	if n == 0 {
		return nil, api.OK
	}
	l := scaled(a, n)
	if tooGreat(l) {
		return nil, api.ErrRange
	}
	return l, api.OK
}

// tooGreat reports whether a power is out of range.
func tooGreat(l []api.Power) bool {
	return slices.ContainsFunc(l, func(p api.Power) bool { return beyond(p.N, maxPower) })
}
