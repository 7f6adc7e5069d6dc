package completion

import (
	"slices"

	"sealring/api"
	"sealring/rewrite"
)

// Confluent returns the joins of all critical pairs and -1, or the index of
// the first pair that has none, with its error.
func Confluent(rules []api.Rule, fuel int) ([]api.Join, int, api.Errno) {
	if e := rulesError(rules); e != api.OK {
		return nil, -1, e
	}
	if e := fuelError(fuel); e != api.OK {
		return nil, -1, e
	}
	pairs, e := Pairs(rules)
	if e != api.OK {
		return nil, -1, e
	}
	l := make([]api.Join, len(pairs))
	for i := range pairs {
		if l[i], e = rewrite.Joins(rules, pairs[i].Left, pairs[i].Right, fuel); e != api.OK {
			return nil, i, e
		}
	}
	return l, -1, api.OK
}

// CheckConfluent reports whether joins prove that rules are confluent.
func CheckConfluent(rules []api.Rule, l []api.Join) bool {
	pairs, e := Pairs(rules)
	if e != api.OK || len(l) != len(pairs) {
		return false
	}
	for i := range pairs {
		if !rewrite.CheckJoin(rules, pairs[i].Left, pairs[i].Right, l[i]) {
			return false
		}
	}
	return true
}

// Interreduce reduces rules by one another.
func Interreduce(rules []api.Rule, fuel int) ([]api.Rule, api.Errno) {
	if e := rulesError(rules); e != api.OK {
		return nil, e
	}
	if e := fuelError(fuel); e != api.OK {
		return nil, e
	}
	var l []api.Rule
	for i := range rules {
		right, _, e := rewrite.Normal(rules, rules[i].Right, fuel)
		if e != api.OK {
			return nil, e
		}
		r := api.Rule{Left: copyOf(&rules[i].Left), Right: right}
		if !contains(l, &r) {
			l = append(l, r)
		}
	}
	return withoutReducible(l), api.OK
}

// contains reports whether a rule of l is equal to r.
func contains(l []api.Rule, r *api.Rule) bool {
	return slices.ContainsFunc(l, func(s api.Rule) bool {
		return same(&s.Left, &r.Left) && same(&s.Right, &r.Right)
	})
}

// withoutReducible leaves out, from the first rule to the last one, each one
// whose Left can be rewritten by the others that are still there.
func withoutReducible(l []api.Rule) []api.Rule {
	for i := 0; i < len(l); {
		others := slices.Concat(l[:i], l[i+1:])
		if rewrite.IsNormal(others, l[i].Left) {
			i++
		} else {
			l = others
		}
	}
	return l
}
