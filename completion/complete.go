package completion

import (
	"sealring/api"
	"sealring/order"
	"sealring/rewrite"
)

// Complete completes a system of equations. It first tries what is simple:
// the equations themselves as rules.
func Complete(equations []api.Rule, precedence []string, fuel int) (api.Completion, api.Errno) {
	if e := completeError(equations, precedence, fuel); e != api.OK {
		return api.Completion{}, e
	}
	rules, proofs := directed(equations, precedence)
	if c, e := completionOf(equations, precedence, rules, proofs, fuel); e == api.OK {
		return c, api.OK
	}
	p := startProcedure(equations, precedence, fuel)
	if e := p.run(); e != api.OK {
		return api.Completion{}, e
	}
	rules, proofs, e := p.result()
	if e != api.OK {
		return api.Completion{}, e
	}
	return completionOf(equations, precedence, rules, proofs, fuel)
}

// completeError returns the error of the arguments of Complete, or OK.
func completeError(equations []api.Rule, precedence []string, fuel int) api.Errno {
	if e := equationsError(equations); e != api.OK {
		return e
	}
	if e := order.Precedence(precedence); e != api.OK {
		return e
	}
	if e := fuelError(fuel); e != api.OK {
		return e
	}
	for i := range equations {
		// Only a name that is missing can be left.
		if _, e := order.Lpo(precedence, equations[i].Left, equations[i].Right); e != api.OK {
			return e
		}
	}
	return api.OK
}

// directed returns the equations whose sides can be compared as rules, each
// with one step as its proof.
func directed(equations []api.Rule, precedence []string) ([]api.Rule, [][]api.Equal) {
	var rules []api.Rule
	var proofs [][]api.Equal
	for i := range equations {
		greater, lesser := &equations[i].Left, &equations[i].Right
		way, _ := order.Lpo(precedence, *greater, *lesser)
		if way == -1 {
			greater, lesser = lesser, greater
		}
		if way == 1 || way == -1 {
			rules = append(rules, api.Rule{Left: copyOf(greater), Right: copyOf(lesser)})
			proofs = append(proofs, []api.Equal{{Equation: i, Back: way == -1, Term: copyOf(lesser)}})
		}
	}
	return rules, proofs
}

// completionOf returns the completion with some rules and their proofs, if
// there is one that is right.
func completionOf(equations []api.Rule, precedence []string, rules []api.Rule, proofs [][]api.Equal, fuel int) (api.Completion, api.Errno) {
	joins, _, e := Confluent(rules, fuel)
	if e != api.OK {
		return api.Completion{}, e
	}
	c := api.Completion{Rules: rules, Proofs: proofs, Joins: joins}
	for i := range equations {
		j, e := rewrite.Joins(rules, equations[i].Left, equations[i].Right, fuel)
		if e != api.OK {
			return api.Completion{}, e
		}
		c.Equations = append(c.Equations, j)
	}
	if !Check(equations, precedence, c) {
		// All that can be wrong is that terms are too large for the steps.
		return api.Completion{}, api.ErrTooLarge
	}
	return c, api.OK
}
