package completion

import (
	"sealring/api"
	"sealring/order"
	"sealring/rewrite"
	"sealring/term"
	"sealring/unify"
)

// Check reports whether a completion is right.
func Check(equations []api.Rule, precedence []string, c api.Completion) bool {
	if equationsError(equations) != api.OK || rulesError(c.Rules) != api.OK {
		return false
	}
	if _, ok := order.Decreasing(precedence, c.Rules); !ok {
		return false
	}
	return provesRules(equations, &c) && CheckConfluent(c.Rules, c.Joins) && joinsEquations(equations, &c)
}

// provesRules reports whether a completion has a proof for each rule.
func provesRules(equations []api.Rule, c *api.Completion) bool {
	if len(c.Proofs) != len(c.Rules) {
		return false
	}
	for i := range c.Rules {
		if !proves(equations, &c.Rules[i], c.Proofs[i]) {
			return false
		}
	}
	return true
}

// joinsEquations reports whether a completion has a join for each equation.
func joinsEquations(equations []api.Rule, c *api.Completion) bool {
	if len(c.Equations) != len(equations) {
		return false
	}
	for i := range equations {
		if !rewrite.CheckJoin(c.Rules, equations[i].Left, equations[i].Right, c.Equations[i]) {
			return false
		}
	}
	return true
}

// proves reports whether steps lead from the one side of a rule to the other.
func proves(equations []api.Rule, r *api.Rule, l []api.Equal) bool {
	t := &r.Left
	for i := range l {
		if !isStep(equations, t, &l[i]) {
			return false
		}
		t = &l[i].Term
	}
	return same(t, &r.Right)
}

// isStep reports whether a step from a valid term is right.
func isStep(equations []api.Rule, t *api.Term, s *api.Equal) bool {
	if term.Valid(s.Term) != api.OK || s.Equation < 0 || s.Equation >= len(equations) {
		return false
	}
	before, e := term.At(*t, s.Position)
	if e != api.OK {
		return false
	}
	after, e := term.At(s.Term, s.Position)
	if e != api.OK {
		return false
	}
	moved, e := term.Replace(*t, s.Position, after)
	if e != api.OK || !same(&moved, &s.Term) {
		return false
	}
	if s.Back {
		before, after = after, before
	}
	q := &equations[s.Equation]
	_, e = unify.Match(pairOf(q.Left, q.Right), pairOf(before, after))
	return e == api.OK
}

// pairOf returns two terms as one.
func pairOf(a, b api.Term) api.Term {
	return api.Term{Kind: api.TermApp, Name: "pair", Kids: []api.Term{a, b}}
}
