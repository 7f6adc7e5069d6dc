package rewrite_test

import (
	"fmt"
	"math/rand/v2"
	"slices"
	"strings"
	"testing"

	"sealring/api"
	"sealring/term"
)

func variable(name string, sort int) api.Term {
	return api.Term{Kind: api.TermVar, Name: name, Sort: sort}
}

func atom(name string, sort int) api.Term {
	return api.Term{Kind: api.TermAtom, Name: name, Sort: sort}
}

func app(name string, kids ...api.Term) api.Term {
	return api.Term{Kind: api.TermApp, Name: name, Kids: kids}
}

func redex(rule int, at ...int) api.Redex {
	return api.Redex{Rule: rule, Position: at}
}

// must parses the text of a term that is right.
func must(t *testing.T, s string) api.Term {
	t.Helper()
	x, e := term.Parse(s)
	if e != api.OK {
		t.Fatalf("Parse(%q): %v", s, e)
	}
	return x
}

// rules reads rules from the texts of their sides, one after the other.
func rules(t *testing.T, texts ...string) []api.Rule {
	t.Helper()
	var l []api.Rule
	for i := 0; i < len(texts); i += 2 {
		l = append(l, api.Rule{Left: must(t, texts[i]), Right: must(t, texts[i+1])})
	}
	return l
}

// many returns n different variables or atoms, in order.
func many(leaf func(name string, sort int) api.Term, first string, n int) []api.Term {
	var l []api.Term
	for i := range n {
		l = append(l, leaf(fmt.Sprintf("%s%04d", first, i), api.SortAny))
	}
	return l
}

// reversed returns a list in the other order.
func reversed(l []api.Term) []api.Term {
	m := slices.Clone(l)
	slices.Reverse(m)
	return m
}

// tower returns a term of the given depth, in which every node but the lowest
// one has one kid.
func tower(depth int, leaf api.Term) api.Term {
	for range depth - 1 {
		leaf = app("g", leaf)
	}
	return leaf
}

// tree returns a term with the given leaves, in order, and as few other nodes
// as its kids allow: 394 nodes in all for 344 leaves.
func tree(l []api.Term) api.Term {
	for len(l) > 1 {
		var above []api.Term
		for kids := range slices.Chunk(l, api.MaxKids) {
			above = append(above, app("f", kids...))
		}
		l = above
	}
	return l[0]
}

// sized returns a term with n nodes and few levels.
func sized(n int) api.Term {
	kids := []api.Term{}
	for n--; n > 0; {
		size := min(n, max(1, (n+api.MaxKids-len(kids)-1)/(api.MaxKids-len(kids))))
		kids = append(kids, sized(size))
		n -= size
	}
	return app("h", kids...)
}

// same is equality by the definition: nil and empty lists of kids are equal.
func same(a, b api.Term) bool {
	return a.Kind == b.Kind && a.Name == b.Name && a.Sort == b.Sort && slices.EqualFunc(a.Kids, b.Kids, same)
}

func sameTrace(a, b []api.Redex) bool {
	return slices.EqualFunc(a, b, func(x, y api.Redex) bool {
		return x.Rule == y.Rule && slices.Equal(x.Position, y.Position)
	})
}

// replace replaces the variables of s in t, by the definition.
func replace(s []api.Binding, t api.Term) api.Term {
	for _, b := range s {
		if same(b.Var, t) {
			return b.Term
		}
	}
	u := t
	u.Kids = nil
	for _, kid := range t.Kids {
		u.Kids = append(u.Kids, replace(s, kid))
	}
	return u
}

// show writes anything with all that it contains.
func show(x any) string {
	return fmt.Sprintf("%+v", x)
}

// showRules writes the texts of rules.
func showRules(l []api.Rule) string {
	var texts []string
	for _, r := range l {
		texts = append(texts, text(r.Left)+" to "+text(r.Right))
	}
	return strings.Join(texts, "; ")
}

// text writes a term, if need be one that is not valid.
func text(t api.Term) string {
	s, e := term.Format(t)
	if e != api.OK {
		return show(t)
	}
	return s
}

// arrays returns the addresses of the lists of kids in some terms, also of
// empty ones behind which there is memory.
func arrays(terms ...api.Term) []*api.Term {
	var l []*api.Term
	for _, t := range terms {
		if cap(t.Kids) > 0 {
			l = append(l, &t.Kids[:1][0])
			l = append(l, arrays(t.Kids...)...)
		}
	}
	return l
}

// apart checks that no two lists of kids of these terms share memory.
func apart(t *testing.T, what string, terms ...api.Term) {
	t.Helper()
	seen := map[*api.Term]bool{}
	for _, p := range arrays(terms...) {
		if seen[p] {
			t.Errorf("%s: memory is shared", what)
			return
		}
		seen[p] = true
	}
}

// apartRedexes checks that no two positions of these redexes share memory.
func apartRedexes(t *testing.T, what string, l ...api.Redex) {
	t.Helper()
	seen := map[*int]bool{}
	for _, r := range l {
		if cap(r.Position) == 0 {
			continue
		}
		p := &r.Position[:1][0]
		if seen[p] {
			t.Errorf("%s: memory of positions is shared", what)
			return
		}
		seen[p] = true
	}
}

// sides returns the sides of rules.
func sides(l []api.Rule) []api.Term {
	var m []api.Term
	for _, r := range l {
		m = append(m, r.Left, r.Right)
	}
	return m
}

// A wrong term has an error.
type wrong struct {
	t    api.Term
	want api.Errno
}

// invalid are terms with their errors.
func invalid() map[string]wrong {
	a := atom("a", api.SortAny)
	return map[string]wrong{
		"zero term":           {api.Term{}, api.ErrInvalid},
		"variable with a kid": {api.Term{Kind: api.TermVar, Name: "x", Kids: []api.Term{a}}, api.ErrInvalid},
		"sort 6":              {atom("a", 6), api.ErrInvalid},
		"kid without a kind":  {app("f", a, api.Term{}), api.ErrInvalid},
		"no name":             {atom("", api.SortAny), api.ErrSyntax},
		"name too long":       {atom(strings.Repeat("x", api.MaxName+1), api.SortAny), api.ErrSyntax},
		"kid without a name":  {app("f", a, atom("", api.SortAny)), api.ErrSyntax},
		"9 kids":              {app("f", slices.Repeat([]api.Term{a}, 9)...), api.ErrTooLarge},
		"401 nodes":           {sized(401), api.ErrTooLarge},
		"41 levels":           {tower(41, a), api.ErrTooLarge},
	}
}

// A wrongList is a list of rules that has an error.
type wrongList struct {
	l    []api.Rule
	want api.Errno
}

// invalidRules are lists of rules that are not valid, with their errors.
func invalidRules(t *testing.T) map[string]wrongList {
	t.Helper()
	good := rules(t, "f(?x)", "?x")
	list := map[string]wrongList{
		"a variable":         {rules(t, "?x", "?x"), api.ErrInvalid},
		"an unknown":         {rules(t, "f(?x)", "?y"), api.ErrUnbound},
		"41 rules":           {slices.Repeat(good, 41), api.ErrTooLarge},
		"the second":         {append(rules(t, "f(?x)", "?x"), api.Rule{}), api.ErrInvalid},
		"a sort":             {rules(t, "f(?x)", "g(?x:key)"), api.ErrUnbound},
		"unknown is second":  {append(rules(t, "f(?x)", "?x"), rules(t, "a:any", "f(?x)")...), api.ErrUnbound},
		"variable is second": {append(rules(t, "f(?x)", "?x"), rules(t, "?x", "a:any")...), api.ErrInvalid},
	}
	for what, c := range invalid() {
		list["left: "+what] = wrongList{[]api.Rule{{Left: c.t, Right: good[0].Right}}, c.want}
		list["right: "+what] = wrongList{[]api.Rule{{Left: good[0].Left, Right: c.t}}, c.want}
	}
	return list
}

// A pool has what random terms are made of.
type pool struct {
	symbols, names []string
	sorts          []int
}

// few has so little that random terms often have instances of others.
var few = pool{[]string{"f", "g"}, []string{"x", "y"}, []int{api.SortAny, api.SortAny, api.SortAny, api.SortKey}}

func pick[T any](r *rand.Rand, l []T) T {
	return l[r.IntN(len(l))]
}

// random returns a valid term with at most the given depth.
func (p pool) random(r *rand.Rand, depth int) api.Term {
	switch kind := r.IntN(9); {
	case kind < 2:
		return variable(pick(r, p.names), pick(r, p.sorts))
	case kind < 4 || depth == 1:
		return atom(pick(r, p.names), pick(r, p.sorts))
	}
	return p.application(r, depth)
}

func (p pool) application(r *rand.Rand, depth int) api.Term {
	kids := make([]api.Term, pick(r, []int{0, 1, 1, 1, 2, 2}))
	for i := range kids {
		kids[i] = p.random(r, depth-1)
	}
	return app(pick(r, p.symbols), kids...)
}

// rules returns at most n valid rules.
func (p pool) rules(r *rand.Rand, n int) []api.Rule {
	l := make([]api.Rule, r.IntN(n+1))
	for i := range l {
		l[i].Left = p.application(r, 3)
		l[i].Right = p.known(r, p.random(r, 3), term.Vars(l[i].Left))
	}
	return l
}

// known returns t with variables of a list in the place of its own ones.
func (p pool) known(r *rand.Rand, t api.Term, l []api.Term) api.Term {
	if t.Kind == api.TermVar {
		if len(l) == 0 {
			return atom(t.Name, t.Sort)
		}
		return pick(r, l)
	}
	u := t
	u.Kids = nil
	for _, kid := range t.Kids {
		u.Kids = append(u.Kids, p.known(r, kid, l))
	}
	return u
}

// bindings returns a valid substitution for some variables of t.
func (p pool) bindings(r *rand.Rand, t api.Term, depth int) []api.Binding {
	var s []api.Binding
	for _, x := range term.Vars(t) {
		u := p.random(r, depth)
		if x.Sort != api.SortAny {
			u = p.random(r, 1)
			u.Sort = x.Sort
		}
		if r.IntN(4) > 0 && !same(x, u) {
			s = append(s, api.Binding{Var: x, Term: u})
		}
	}
	return s
}

// redexful returns a term in which there are instances of left sides.
func (p pool) redexful(r *rand.Rand, l []api.Rule, depth int) api.Term {
	if len(l) > 0 && r.IntN(3) == 0 {
		left := pick(r, l).Left
		return replace(p.bindings(r, left, 2), left)
	}
	u := p.random(r, depth)
	for i := range u.Kids {
		u.Kids[i] = p.redexful(r, l, depth-1)
	}
	return u
}

// checkSeen checks that random cases have had each of some errors often.
func checkSeen(t *testing.T, seen map[api.Errno]int, least int, errors ...api.Errno) {
	t.Helper()
	for _, e := range errors {
		if seen[e] < least {
			t.Errorf("%v: %d cases only", e, seen[e])
		}
	}
}
