package proof

import (
	"slices"

	"sealring/api"
)

// Trim leaves out the steps on which the last one does not depend.
func Trim(l []api.Deduction) []api.Deduction {
	for i := range l {
		if !areEarlier(l[i].Args, i) {
			return copies(l)
		}
	}
	needed := needs(l)
	index := make([]int, len(l))
	var kept []api.Deduction
	for i := range l {
		if !needed[i] {
			continue
		}
		d := copyOf(&l[i])
		for j, a := range d.Args {
			d.Args[j] = index[a]
		}
		index[i] = len(kept)
		kept = append(kept, d)
	}
	return kept
}

// needs says for each step whether the last one depends on it. All Args are
// indices of earlier steps.
func needs(l []api.Deduction) []bool {
	needed := make([]bool, len(l))
	for i := len(l) - 1; i >= 0; i-- {
		if i == len(l)-1 {
			needed[i] = true
		}
		if needed[i] {
			for _, a := range l[i].Args {
				needed[a] = true
			}
		}
	}
	return needed
}

// Steps returns the number of steps that are neither given nor public.
func Steps(l []api.Deduction) int {
	n := 0
	for i := range l {
		if l[i].Rule != api.ByGiven && l[i].Rule != api.ByPublic {
			n++
		}
	}
	return n
}

// Uses returns the indices of the terms that are given.
func Uses(l []api.Deduction) []int {
	var given []int
	for i := range l {
		if l[i].Rule == api.ByGiven {
			given = append(given, l[i].N)
		}
	}
	slices.Sort(given)
	return slices.Compact(given)
}

// Join puts a derivation behind another one, whose conclusion it uses.
func Join(l, m []api.Deduction) ([]api.Deduction, api.Errno) {
	if len(l) == 0 || len(m) == 0 {
		return nil, api.ErrEmpty
	}
	joined := copies(l)
	last := len(l) - 1
	index := make([]int, len(m))
	for i := range m {
		if m[i].Rule == api.ByGiven && equal(m[i].Term, l[last].Term) {
			index[i] = last
			continue
		}
		d := copyOf(&m[i])
		for j, a := range d.Args {
			d.Args[j] = none
			if isEarlier(a, i) {
				d.Args[j] = index[a]
			}
		}
		index[i] = len(joined)
		joined = append(joined, d)
	}
	if index[len(m)-1] == last {
		joined = joined[:len(l)]
	}
	if len(joined) > maxSteps {
		return nil, api.ErrTooLarge
	}
	return joined, api.OK
}
