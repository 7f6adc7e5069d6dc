package rewrite_test

import (
	"slices"

	"sealring/api"
	"sealring/term"
	"sealring/unify"
)

// refRedexes returns the redexes of a valid term by the definition.
func refRedexes(l []api.Rule, t api.Term) []api.Redex {
	var found []api.Redex
	for _, p := range term.Positions(t) {
		part, _ := term.At(t, p)
		for i, r := range l {
			if _, e := unify.Match(r.Left, part); e == api.OK {
				found = append(found, redex(i, p...))
			}
		}
	}
	return found
}

// put returns the term in which u stands at a position of t.
func put(t api.Term, at []int, u api.Term) api.Term {
	if len(at) == 0 {
		return u
	}
	t.Kids = slices.Clone(t.Kids)
	t.Kids[at[0]] = put(t.Kids[at[0]], at[1:], u)
	return t
}

// refApply applies a redex that a valid term has.
func refApply(l []api.Rule, t api.Term, r api.Redex) (api.Term, api.Errno) {
	part, _ := term.At(t, r.Position)
	s, e := unify.Match(l[r.Rule].Left, part)
	if e != api.OK {
		panic(e)
	}
	u := put(t, r.Position, replace(s, l[r.Rule].Right))
	if e := term.Valid(u); e != api.OK {
		return api.Term{}, e
	}
	return u, api.OK
}

// comesBefore compares positions so that kids come before their node, and
// earlier kids first.
func comesBefore(p, q []int) int {
	for i := range min(len(p), len(q)) {
		if p[i] != q[i] {
			return p[i] - q[i]
		}
	}
	return len(q) - len(p)
}

// refFirst returns the first redex of a valid term, if there is one.
func refFirst(l []api.Rule, t api.Term) (api.Redex, bool) {
	all := refRedexes(l, t)
	if len(all) == 0 {
		return api.Redex{}, false
	}
	return slices.MinFunc(all, func(a, b api.Redex) int {
		if n := comesBefore(a.Position, b.Position); n != 0 {
			return n
		}
		return a.Rule - b.Rule
	}), true
}

// refNormal is Normal for arguments without errors, step by step.
func refNormal(l []api.Rule, t api.Term, fuel int) (api.Term, []api.Redex, api.Errno) {
	var trace []api.Redex
	for {
		r, found := refFirst(l, t)
		if !found {
			return t, trace, api.OK
		}
		if len(trace) == fuel {
			return api.Term{}, nil, api.ErrFuel
		}
		u, e := refApply(l, t, r)
		if e != api.OK {
			return api.Term{}, nil, e
		}
		t, trace = u, append(trace, r)
	}
}
