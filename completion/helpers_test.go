package completion_test

import (
	"fmt"
	"math/rand/v2"
	"slices"
	"strings"
	"testing"

	"sealring/api"
	"sealring/term"
)

func variable(name string, sort int) api.Term {
	return api.Term{Kind: api.TermVar, Name: name, Sort: sort}
}

func atom(name string, sort int) api.Term {
	return api.Term{Kind: api.TermAtom, Name: name, Sort: sort}
}

func app(name string, kids ...api.Term) api.Term {
	return api.Term{Kind: api.TermApp, Name: name, Kids: kids}
}

func redex(rule int, at ...int) api.Redex {
	return api.Redex{Rule: rule, Position: at}
}

// must parses the text of a term that is right.
func must(t *testing.T, s string) api.Term {
	t.Helper()
	x, e := term.Parse(s)
	if e != api.OK {
		t.Fatalf("Parse(%q): %v", s, e)
	}
	return x
}

// rules reads rules from the texts of their sides, one after the other.
func rules(t *testing.T, texts ...string) []api.Rule {
	t.Helper()
	var l []api.Rule
	for i := 0; i < len(texts); i += 2 {
		l = append(l, api.Rule{Left: must(t, texts[i]), Right: must(t, texts[i+1])})
	}
	return l
}

// step is a step from left to right.
func step(t *testing.T, equation int, to string, at ...int) api.Equal {
	t.Helper()
	return api.Equal{Equation: equation, Position: at, Term: must(t, to)}
}

// back is a step from right to left.
func back(t *testing.T, equation int, to string, at ...int) api.Equal {
	t.Helper()
	return api.Equal{Equation: equation, Back: true, Position: at, Term: must(t, to)}
}

// many returns n different variables or atoms, in order.
func many(leaf func(name string, sort int) api.Term, first string, n int) []api.Term {
	var l []api.Term
	for i := range n {
		l = append(l, leaf(fmt.Sprintf("%s%04d", first, i), api.SortAny))
	}
	return l
}

// tower returns a term of the given depth, in which every node but the lowest
// one has one kid.
func tower(depth int, leaf api.Term) api.Term {
	for range depth - 1 {
		leaf = app("g", leaf)
	}
	return leaf
}

// tree returns a term with the given leaves, in order, and as few other nodes
// as its kids allow: 394 nodes in all for 344 leaves.
func tree(l []api.Term) api.Term {
	for len(l) > 1 {
		var above []api.Term
		for kids := range slices.Chunk(l, api.MaxKids) {
			above = append(above, app("f", kids...))
		}
		l = above
	}
	return l[0]
}

// sized returns a term with n nodes and few levels.
func sized(n int) api.Term {
	kids := []api.Term{}
	for n--; n > 0; {
		size := min(n, max(1, (n+api.MaxKids-len(kids)-1)/(api.MaxKids-len(kids))))
		kids = append(kids, sized(size))
		n -= size
	}
	return app("h", kids...)
}

// same is equality by the definition: nil and empty lists of kids are equal.
func same(a, b api.Term) bool {
	return a.Kind == b.Kind && a.Name == b.Name && a.Sort == b.Sort && slices.EqualFunc(a.Kids, b.Kids, same)
}

func sameRule(a, b api.Rule) bool {
	return same(a.Left, b.Left) && same(a.Right, b.Right)
}

func sameTrace(a, b []api.Redex) bool {
	return slices.EqualFunc(a, b, func(x, y api.Redex) bool {
		return x.Rule == y.Rule && slices.Equal(x.Position, y.Position)
	})
}

func sameJoin(a, b api.Join) bool {
	return sameTrace(a.Left, b.Left) && sameTrace(a.Right, b.Right) && same(a.Term, b.Term)
}

func samePair(a, b api.Critical) bool {
	return a.A == b.A && a.B == b.B && slices.Equal(a.Position, b.Position) && same(a.Left, b.Left) && same(a.Right, b.Right)
}

// replace replaces the variables of s in t, by the definition.
func replace(s []api.Binding, t api.Term) api.Term {
	for _, b := range s {
		if same(b.Var, t) {
			return b.Term
		}
	}
	u := t
	u.Kids = nil
	for _, kid := range t.Kids {
		u.Kids = append(u.Kids, replace(s, kid))
	}
	return u
}

// put returns the term in which u stands at a position of t.
func put(t api.Term, at []int, u api.Term) api.Term {
	if len(at) == 0 {
		return u
	}
	t.Kids = slices.Clone(t.Kids)
	t.Kids[at[0]] = put(t.Kids[at[0]], at[1:], u)
	return t
}

// show writes anything with all that it contains.
func show(x any) string {
	return fmt.Sprintf("%+v", x)
}

// text writes a term, if need be one that is not valid.
func text(t api.Term) string {
	s, e := term.Format(t)
	if e != api.OK {
		return show(t)
	}
	return s
}

// showRules writes the texts of rules.
func showRules(l []api.Rule) string {
	var texts []string
	for _, r := range l {
		texts = append(texts, text(r.Left)+" = "+text(r.Right))
	}
	return strings.Join(texts, "; ")
}

// memory has addresses of lists that have been seen.
type memory map[any]bool

func (m memory) see(t *testing.T, address any) {
	t.Helper()
	if m[address] {
		t.Errorf("memory is shared: %T", address)
	}
	m[address] = true
}

// terms looks at the lists of kids in some terms, also at empty ones behind
// which there is memory.
func (m memory) terms(t *testing.T, terms ...api.Term) {
	t.Helper()
	for _, x := range terms {
		if cap(x.Kids) > 0 {
			m.see(t, &x.Kids[:1][0])
			m.terms(t, x.Kids...)
		}
	}
}

func (m memory) position(t *testing.T, at []int) {
	t.Helper()
	if cap(at) > 0 {
		m.see(t, &at[:1][0])
	}
}

func (m memory) rules(t *testing.T, l []api.Rule) {
	t.Helper()
	if cap(l) > 0 {
		m.see(t, &l[:1][0])
	}
	for _, r := range l {
		m.terms(t, r.Left, r.Right)
	}
}

func (m memory) pairs(t *testing.T, l []api.Critical) {
	t.Helper()
	if cap(l) > 0 {
		m.see(t, &l[:1][0])
	}
	for _, p := range l {
		m.position(t, p.Position)
		m.terms(t, p.Left, p.Right)
	}
}

func (m memory) joins(t *testing.T, l []api.Join) {
	t.Helper()
	if cap(l) > 0 {
		m.see(t, &l[:1][0])
	}
	for _, j := range l {
		m.terms(t, j.Term)
		for _, trace := range [][]api.Redex{j.Left, j.Right} {
			if cap(trace) > 0 {
				m.see(t, &trace[:1][0])
			}
			for _, r := range trace {
				m.position(t, r.Position)
			}
		}
	}
}

func (m memory) completion(t *testing.T, c api.Completion) {
	t.Helper()
	m.rules(t, c.Rules)
	m.joins(t, c.Joins)
	m.joins(t, c.Equations)
	if cap(c.Proofs) > 0 {
		m.see(t, &c.Proofs[:1][0])
	}
	for _, l := range c.Proofs {
		if cap(l) > 0 {
			m.see(t, &l[:1][0])
		}
		for _, s := range l {
			m.position(t, s.Position)
			m.terms(t, s.Term)
		}
	}
}

// copyOf returns a completion that shares no memory with c.
func copyOf(c api.Completion) api.Completion {
	d := api.Completion{Joins: copyOfJoins(c.Joins), Equations: copyOfJoins(c.Equations)}
	for _, r := range c.Rules {
		d.Rules = append(d.Rules, api.Rule{Left: replace(nil, r.Left), Right: replace(nil, r.Right)})
	}
	for _, l := range c.Proofs {
		l = slices.Clone(l)
		for i := range l {
			l[i].Position, l[i].Term = slices.Clone(l[i].Position), replace(nil, l[i].Term)
		}
		d.Proofs = append(d.Proofs, l)
	}
	return d
}

func copyOfJoins(l []api.Join) []api.Join {
	l = slices.Clone(l)
	for i := range l {
		l[i].Term = replace(nil, l[i].Term)
		l[i].Left, l[i].Right = slices.Clone(l[i].Left), slices.Clone(l[i].Right)
		for _, trace := range [][]api.Redex{l[i].Left, l[i].Right} {
			for k := range trace {
				trace[k].Position = slices.Clone(trace[k].Position)
			}
		}
	}
	return l
}

// A wrong term has an error.
type wrong struct {
	t    api.Term
	want api.Errno
}

// invalid are terms with their errors.
func invalid() map[string]wrong {
	a := atom("a", api.SortAny)
	return map[string]wrong{
		"zero term":           {api.Term{}, api.ErrInvalid},
		"variable with a kid": {api.Term{Kind: api.TermVar, Name: "x", Kids: []api.Term{a}}, api.ErrInvalid},
		"sort 6":              {atom("a", 6), api.ErrInvalid},
		"kid without a kind":  {app("f", a, api.Term{}), api.ErrInvalid},
		"no name":             {atom("", api.SortAny), api.ErrSyntax},
		"name too long":       {atom(strings.Repeat("x", api.MaxName+1), api.SortAny), api.ErrSyntax},
		"kid without a name":  {app("f", a, atom("", api.SortAny)), api.ErrSyntax},
		"9 kids":              {app("f", slices.Repeat([]api.Term{a}, 9)...), api.ErrTooLarge},
		"401 nodes":           {sized(401), api.ErrTooLarge},
		"41 levels":           {tower(41, a), api.ErrTooLarge},
	}
}

// A wrongList is a list of rules or equations that has an error.
type wrongList struct {
	l    []api.Rule
	want api.Errno
}

// invalidRules are lists that are no rules, with their errors.
func invalidRules(t *testing.T) map[string]wrongList {
	t.Helper()
	good := rules(t, "f(?x)", "?x")
	list := map[string]wrongList{
		"a variable":                     {rules(t, "?x", "?x"), api.ErrInvalid},
		"an unknown":                     {rules(t, "f(?x)", "?y"), api.ErrUnbound},
		"41 rules":                       {slices.Repeat(good, 41), api.ErrTooLarge},
		"the second":                     {append(rules(t, "f(?x)", "?x"), api.Rule{}), api.ErrInvalid},
		"a sort":                         {rules(t, "f(?x:nonce)", "a:any"), api.ErrType},
		"a sort, on both sides":          {rules(t, "f(?x:key, ?y)", "f(?x:key)"), api.ErrType},
		"a sort, deep below":             {rules(t, "f(g(g(a:any, ?x:tag)))", "a:any"), api.ErrType},
		"a sort, in the second":          {rules(t, "f(?x)", "?x", "f(?x:agent)", "?x:agent"), api.ErrType},
		"a sort behind another variable": {rules(t, "f(?x, ?x:data)", "?x"), api.ErrType},
		"a sort before a wrong rule":     {rules(t, "f(?x:nonce)", "a:any", "?x", "a:any"), api.ErrInvalid},
		"a sort, and unknown":            {rules(t, "f(?x:nonce)", "?x:key"), api.ErrUnbound},
	}
	for what, c := range invalid() {
		list["left: "+what] = wrongList{[]api.Rule{{Left: c.t, Right: good[0].Right}}, c.want}
		list["right: "+what] = wrongList{[]api.Rule{{Left: good[0].Left, Right: c.t}}, c.want}
	}
	return list
}

// invalidEquations are lists that are no equations, with their errors.
func invalidEquations(t *testing.T) map[string]wrongList {
	t.Helper()
	good := rules(t, "f(?x)", "?x")
	sort := rules(t, "f(?x:nonce)", "a:any")
	list := map[string]wrongList{
		"41 equations":               {slices.Repeat(good, 41), api.ErrTooLarge},
		"41 wrong equations":         {make([]api.Rule, 41), api.ErrTooLarge},
		"40 wrong equations":         {make([]api.Rule, 40), api.ErrInvalid},
		"a sort":                     {sort, api.ErrType},
		"a sort at the right":        {rules(t, "a:any", "f(?x:nonce)"), api.ErrType},
		"a sort in the second":       {append(slices.Clone(good), sort...), api.ErrType},
		"a sort before a wrong one":  {append(slices.Clone(sort), api.Rule{}), api.ErrType},
		"a wrong one before a sort":  {append(make([]api.Rule, 1), sort...), api.ErrInvalid},
		"wrong before a sort":        {[]api.Rule{{Left: sort[0].Left, Right: atom("", 0)}}, api.ErrSyntax},
		"left before right":          {[]api.Rule{{Left: tower(41, sort[0].Right), Right: atom("", 0)}}, api.ErrTooLarge},
		"left before right, no name": {[]api.Rule{{Left: atom("", 0), Right: tower(41, sort[0].Right)}}, api.ErrSyntax},
	}
	for what, c := range invalid() {
		list["left: "+what] = wrongList{[]api.Rule{{Left: c.t, Right: good[0].Right}}, c.want}
		list["right: "+what] = wrongList{[]api.Rule{{Left: good[0].Left, Right: c.t}}, c.want}
		list["second: "+what] = wrongList{[]api.Rule{good[0], {Left: c.t, Right: good[0].Right}}, c.want}
	}
	return list
}

// A pool has what random terms are made of. All variables have SortAny.
type pool struct {
	symbols, variables, atoms []string
}

// few has so little that random terms often have instances of others.
var few = pool{[]string{"f", "g"}, []string{"x", "y"}, []string{"a", "b"}}

// names is a precedence for few.
var names = []string{"a", "b", "g", "f"}

func pick[T any](r *rand.Rand, l []T) T {
	return l[r.IntN(len(l))]
}

// random returns a valid term with at most the given depth.
func (p pool) random(r *rand.Rand, depth int) api.Term {
	switch kind := r.IntN(9); {
	case kind < 3:
		return variable(pick(r, p.variables), api.SortAny)
	case kind < 5 || depth == 1:
		return atom(pick(r, p.atoms), pick(r, []int{api.SortAny, api.SortAny, api.SortAny, api.SortKey}))
	}
	return p.application(r, depth)
}

func (p pool) application(r *rand.Rand, depth int) api.Term {
	kids := make([]api.Term, pick(r, []int{0, 1, 1, 1, 2, 2}))
	for i := range kids {
		kids[i] = p.random(r, depth-1)
	}
	return app(pick(r, p.symbols), kids...)
}

// rules returns at most n valid rules.
func (p pool) rules(r *rand.Rand, n int) []api.Rule {
	l := make([]api.Rule, r.IntN(n+1))
	for i := range l {
		l[i].Left = p.application(r, 3)
		l[i].Right = p.known(r, p.random(r, 3), term.Vars(l[i].Left))
	}
	return l
}

// known returns t with variables of a list in the place of its own ones.
func (p pool) known(r *rand.Rand, t api.Term, l []api.Term) api.Term {
	if t.Kind == api.TermVar {
		if len(l) == 0 {
			return atom(pick(r, p.atoms), api.SortAny)
		}
		return pick(r, l)
	}
	u := t
	u.Kids = nil
	for _, kid := range t.Kids {
		u.Kids = append(u.Kids, p.known(r, kid, l))
	}
	return u
}

// equations returns at most n equations, some of which are rules.
func (p pool) equations(r *rand.Rand, n int) []api.Rule {
	l := p.rules(r, n)
	for i := range l {
		switch r.IntN(6) {
		case 0:
			l[i].Left, l[i].Right = l[i].Right, l[i].Left
		case 1:
			l[i].Right = p.random(r, 2)
		}
	}
	return l
}

// bindings returns a valid substitution for some variables of a list.
func (p pool) bindings(r *rand.Rand, variables []api.Term, depth int) []api.Binding {
	var s []api.Binding
	for _, x := range variables {
		if u := p.random(r, depth); r.IntN(4) > 0 && !same(x, u) {
			s = append(s, api.Binding{Var: x, Term: u})
		}
	}
	return s
}

// instanceIn returns a term in which there are instances of sides.
func (p pool) instanceIn(r *rand.Rand, l []api.Rule, depth int) api.Term {
	if len(l) > 0 && (depth == 1 || r.IntN(3) == 0) {
		q := pick(r, l)
		side := pick(r, []api.Term{q.Left, q.Right})
		return replace(p.bindings(r, term.Vars(side), 2), side)
	}
	u := p.random(r, depth)
	for i := range u.Kids {
		u.Kids[i] = p.instanceIn(r, l, depth-1)
	}
	return u
}

// checkSeen checks that random cases have had each of some results often.
func checkSeen[T comparable](t *testing.T, seen map[T]int, least int, results ...T) {
	t.Helper()
	for _, e := range results {
		if seen[e] < least {
			t.Errorf("%v: %d cases only", e, seen[e])
		}
	}
}
