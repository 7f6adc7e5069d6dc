package rewrite

import (
	"sealring/api"
	"sealring/term"
)

// Check reports whether a trace leads from t to u.
func Check(rules []api.Rule, t api.Term, l []api.Redex, u api.Term) bool {
	if argumentsError(rules, t) != api.OK {
		return false
	}
	for i := range l {
		next, e := apply(rules, t, l[i])
		if e != api.OK {
			return false
		}
		t = next
	}
	return term.Compare(t, u) == 0
}

// Joins returns the join of two terms by the traces of Normal.
func Joins(rules []api.Rule, t, u api.Term, fuel int) (api.Join, api.Errno) {
	end, left, e := Normal(rules, t, fuel)
	if e != api.OK {
		return api.Join{}, e
	}
	other, right, e := Normal(rules, u, fuel)
	if e != api.OK {
		return api.Join{}, e
	}
	if term.Compare(end, other) != 0 {
		return api.Join{}, api.ErrClash
	}
	return api.Join{Left: left, Right: right, Term: end}, api.OK
}

// CheckJoin reports whether both traces of a join lead from the two terms to
// its Term.
func CheckJoin(rules []api.Rule, t, u api.Term, j api.Join) bool {
	return Check(rules, t, j.Left, j.Term) && Check(rules, u, j.Right, j.Term)
}
