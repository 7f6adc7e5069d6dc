package completion

import (
	"slices"

	"sealring/api"
	"sealring/order"
	"sealring/rewrite"
	"sealring/term"
)

// maxTasks is the number of tasks that are done for one unit of fuel.
const maxTasks = 10

// A law is an equation that follows from the given ones: one of these, or a
// rule, with steps from its left side to its right one. The equations of these
// steps are laws before it.
type law struct {
	rule  api.Rule
	proof []api.Equal
}

// A task is an equation, with steps from its left side to its right one, whose
// sides are to be joined.
type task struct {
	left, right api.Term
	proof       []api.Equal
	size        int // the nodes of both sides
}

// A procedure makes rules of equations, and of the critical pairs of rules, as
// long as there are some that do not join. Each rule costs one unit of fuel.
type procedure struct {
	precedence []string
	fuel       int
	laws       []law
	given      int    // the first laws are the given equations
	active     []int  // the laws that are rules now
	open       []task // the smallest one first
	refused    []task // those whose sides cannot be compared
	made, done int    // rules and tasks
}

// startProcedure returns a procedure that has done nothing yet.
func startProcedure(equations []api.Rule, precedence []string, fuel int) *procedure {
	p := &procedure{precedence: precedence, fuel: fuel, given: len(equations)}
	for i := range equations {
		p.laws = append(p.laws, law{rule: equations[i]})
		p.openLaw(i)
	}
	return p
}

// openLaw makes a task of a law.
func (p *procedure) openLaw(i int) {
	r := &p.laws[i].rule
	p.openTask(task{left: r.Left, right: r.Right, proof: []api.Equal{{Equation: i, Term: r.Right}}})
}

// openTask puts a task behind those that are not larger.
func (p *procedure) openTask(t task) {
	if same(&t.left, &t.right) {
		return
	}
	t.size = term.Size(t.left) + term.Size(t.right)
	at, _ := slices.BinarySearchFunc(p.open, t.size, func(other task, size int) int {
		if other.size > size {
			return 1
		}
		return -1
	})
	p.open = slices.Insert(p.open, at, t)
}

// run does all tasks, also those that come of them.
func (p *procedure) run() api.Errno {
	for len(p.open) > 0 {
		if p.done == maxTasks*p.fuel {
			return api.ErrFuel
		}
		p.done++
		t := p.open[0]
		p.open = p.open[1:]
		if e := p.do(t); e != api.OK {
			return e
		}
	}
	if len(p.refused) > 0 {
		return api.ErrRefused
	}
	return api.OK
}

// do makes a rule of the normal forms of a task, if they differ.
func (p *procedure) do(t task) api.Errno {
	left, before, e := rewrite.Normal(p.rules(), t.left, p.fuel)
	if e != api.OK {
		return e
	}
	right, after, e := rewrite.Normal(p.rules(), t.right, p.fuel)
	if e != api.OK || same(&left, &right) {
		return e
	}
	back, e := p.steps(t.left, before)
	if e != api.OK {
		return e
	}
	on, e := p.steps(t.right, after)
	if e != api.OK {
		return e
	}
	return p.direct(task{left: left, right: right, proof: slices.Concat(turned(&t.left, back), t.proof, on)})
}

// steps returns the steps of a trace from t by the rules there are.
func (p *procedure) steps(t api.Term, trace []api.Redex) ([]api.Equal, api.Errno) {
	var l []api.Equal
	for _, r := range trace {
		u, e := rewrite.Apply(p.rules(), t, r)
		if e != api.OK {
			return nil, e
		}
		l = append(l, api.Equal{Equation: p.active[r.Rule], Position: r.Position, Term: u})
		t = u
	}
	return l, api.OK
}

// direct makes a rule of a task that leads from the greater side to the lesser
// one.
func (p *procedure) direct(t task) api.Errno {
	way, e := order.Lpo(p.precedence, t.left, t.right)
	if e != api.OK {
		return e
	}
	switch way {
	case 1:
		return p.makeRule(t)
	case -1:
		return p.makeRule(task{left: t.right, right: t.left, proof: turned(&t.left, t.proof)})
	}
	if t.left.Kind == api.TermVar || t.right.Kind == api.TermVar {
		// No rules ever join a variable with a term in which it does not occur.
		return api.ErrRefused
	}
	p.refused = append(p.refused, t)
	return api.OK
}

// rules returns the rules there are.
func (p *procedure) rules() []api.Rule {
	var l []api.Rule
	for _, i := range p.active {
		l = append(l, p.laws[i].rule)
	}
	return l
}

// makeRule makes a rule of a task whose left side is greater, and opens the
// tasks that this leads to.
func (p *procedure) makeRule(t task) api.Errno {
	if p.made == p.fuel {
		return api.ErrFuel
	}
	p.made++
	made, e := namedLaw(t)
	if e != api.OK {
		return e
	}
	p.laws = append(p.laws, made)
	p.reopen(&made.rule)
	p.active = append(p.active, len(p.laws)-1)
	if e := p.reduceRights(); e != api.OK {
		return e
	}
	if e := p.openMeetings(); e != api.OK {
		return e
	}
	for _, t := range p.refused {
		p.openTask(t)
	}
	p.refused = nil
	return api.OK
}

// reopen makes tasks of the rules whose left sides a new rule rewrites.
func (p *procedure) reopen(r *api.Rule) {
	p.active = slices.DeleteFunc(p.active, func(i int) bool {
		if rewrite.IsNormal([]api.Rule{*r}, p.laws[i].rule.Left) {
			return false
		}
		p.openLaw(i)
		return true
	})
}

// reduceRights replaces the rules whose right sides are not in normal form.
func (p *procedure) reduceRights() api.Errno {
	for k, i := range p.active {
		r := p.laws[i].rule
		right, trace, e := rewrite.Normal(p.rules(), r.Right, p.fuel)
		if e != api.OK {
			return e
		}
		if len(trace) == 0 {
			continue
		}
		steps, e := p.steps(r.Right, trace)
		if e != api.OK {
			return e
		}
		first := api.Equal{Equation: i, Term: r.Right}
		p.laws = append(p.laws, law{api.Rule{Left: r.Left, Right: right}, append([]api.Equal{first}, steps...)})
		p.active[k] = len(p.laws) - 1
	}
	return api.OK
}

// openMeetings makes tasks of the critical pairs of the last rule with all
// rules.
func (p *procedure) openMeetings() api.Errno {
	last := p.active[len(p.active)-1]
	newest := partyOf(&p.laws[last].rule)
	for _, i := range p.active {
		other := partyOf(&p.laws[i].rule)
		if e := p.openPairs(last, i, &newest, &other, i != last); e != api.OK {
			return e
		}
		if i == last {
			continue
		}
		if e := p.openPairs(i, last, &other, &newest, false); e != api.OK {
			return e
		}
	}
	return api.OK
}

// openPairs makes tasks of the critical pairs of two laws. If one of them is
// too large, the rules would have to change much to have none; it would take
// long to find out.
func (p *procedure) openPairs(a, b int, first, second *party, root bool) api.Errno {
	meetings, all := first.meet(second, root)
	if !all {
		return api.ErrTooLarge
	}
	for _, m := range meetings {
		top, e := applied(m.unifier, first.first.Left)
		if e != api.OK {
			return e
		}
		p.openTask(task{left: m.left, right: m.right, proof: []api.Equal{
			{Equation: a, Back: true, Term: top},
			{Equation: b, Position: m.at, Term: m.right},
		}})
	}
	return api.OK
}
