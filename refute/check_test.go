package refute_test

import (
	"math"
	"math/rand/v2"
	"slices"
	"testing"

	"sealring/api"
	"sealring/exponent"
	"sealring/knowledge"
	"sealring/refute"
	"sealring/term"
	"sealring/xor"
)

// clone returns a refusal whose lists may be changed.
func clone(r api.Refusal) api.Refusal {
	c := api.Refusal{Known: slices.Clone(r.Known), Sums: slices.Clone(r.Sums), Powers: slices.Clone(r.Powers)}
	for i := range c.Sums {
		c.Sums[i].Odd = slices.Clone(c.Sums[i].Odd)
	}
	for i := range c.Powers {
		c.Powers[i].Shows.Values = slices.Clone(c.Powers[i].Shows.Values)
	}
	return c
}

// checks compares Check with the definition and with what is expected.
func checks(t *testing.T, what string, q question, r api.Refusal, want bool) {
	t.Helper()
	before := show(q) + show(r)
	if got := refute.Check(q.k, q.t, r); got != want {
		t.Errorf("%s: %v\n%s", what, got, lines(r))
	}
	if got := refCheck(q.k, q.t, r); got != want {
		t.Errorf("%s: %v by the definition\n%s", what, got, lines(r))
	}
	if show(q)+show(r) != before {
		t.Errorf("%s: an argument has changed", what)
	}
}

// P12.1: the refusal of the document's example is right, and what is changed in
// it makes it wrong.
func TestCheck(t *testing.T) {
	q := question{all(t, "enc(m:any, k:key)"), must(t, "m:any")}
	m, k, one := must(t, "m:any"), must(t, "k:key"), app("one")
	alone := func(x api.Term) api.Character {
		return api.Character{Values: []api.Power{{Term: x, N: 1}}}
	}
	right := api.Refusal{
		Known:  q.k,
		Sums:   []api.NoSum{{Term: k, Odd: []api.Term{k}}, {Term: m, Odd: []api.Term{m}}},
		Powers: []api.NoPower{{Term: k, Base: one, Shows: alone(k)}, {Term: m, Base: one, Shows: alone(m)}},
	}
	checks(t, "right", q, right, true)
	checks(t, "the other missing term", question{q.k, k}, right, true)
	checks(t, "the same term twice in K", question{slices.Repeat(q.k, 60), m}, right, true)

	for what, other := range map[string]question{
		"61 terms":                     {slices.Repeat(q.k, 61), m},
		"nothing given":                {nil, m},
		"a known term":                 {q.k, q.k[0]},
		"a term of another universe":   {q.k, must(t, "n:any")},
		"a larger term":                {q.k, must(t, "hash(m:any)")},
		"a public term":                {q.k, must(t, "a:agent")},
		"the key is given":             {append(slices.Clone(q.k), k), m},
		"the term is given":            {append(slices.Clone(q.k), m), m},
		"a term too many is given":     {append(slices.Clone(q.k), must(t, "n:any")), m},
		"a public term is given":       {append(slices.Clone(q.k), must(t, "a:agent")), m},
		"a variable":                   {q.k, variable("m", api.SortAny)},
		"a term that is not valid":     {q.k, api.Term{}},
		"K has one that is not valid":  {append(slices.Clone(q.k), api.Term{}), m},
		"K has one that is not plain":  {append(slices.Clone(q.k), app("fst", m)), m},
		"the term is not plain":        {q.k, must(t, "dec(enc(m:any, k:key), k:key)")},
		"K is not a part of the terms": {all(t, "m:any; k:key"), must(t, "enc(m:any, k:key)")},
	} {
		checks(t, what, other, right, false)
	}

	junk := []api.Term{{}, {Kind: 7}, atom("", 9), app("zz"), variable("x", 0), app("f", app("f"))}
	for what, c := range map[string]struct {
		change func(r *api.Refusal)
		want   bool
	}{
		"nothing":                       {func(r *api.Refusal) {}, true},
		"no Known":                      {func(r *api.Refusal) { r.Known = nil }, false},
		"Known twice":                   {func(r *api.Refusal) { r.Known = append(r.Known, r.Known[0]) }, false},
		"Known with the key":            {func(r *api.Refusal) { r.Known = append([]api.Term{k}, r.Known...) }, false},
		"Known with the term":           {func(r *api.Refusal) { r.Known = append([]api.Term{m}, r.Known...) }, false},
		"Known with another term":       {func(r *api.Refusal) { r.Known = append([]api.Term{must(t, "n:any")}, r.Known...) }, false},
		"Known with a public term":      {func(r *api.Refusal) { r.Known = append([]api.Term{must(t, "a:agent")}, r.Known...) }, false},
		"Known with no term":            {func(r *api.Refusal) { r.Known = append([]api.Term{{}}, r.Known...) }, false},
		"another sort in Known":         {func(r *api.Refusal) { r.Known[0] = must(t, "enc(m:any, k:any)") }, false},
		"Known with a sort":             {func(r *api.Refusal) { r.Known[0].Sort = 1 }, false},
		"no Sums":                       {func(r *api.Refusal) { r.Sums = nil }, false},
		"one of Sums missing":           {func(r *api.Refusal) { r.Sums = r.Sums[:1] }, false},
		"the first of Sums missing":     {func(r *api.Refusal) { r.Sums = r.Sums[1:] }, false},
		"one of Sums twice":             {func(r *api.Refusal) { r.Sums = append(r.Sums, r.Sums[1]) }, false},
		"Sums in another order":         {func(r *api.Refusal) { slices.Reverse(r.Sums) }, false},
		"another Term in Sums":          {func(r *api.Refusal) { r.Sums[0].Term = m }, false},
		"Term in Sums with a sort":      {func(r *api.Refusal) { r.Sums[0].Term.Sort = 2 }, false},
		"no Term in Sums":               {func(r *api.Refusal) { r.Sums[1].Term = api.Term{} }, false},
		"Sums of a known term":          {func(r *api.Refusal) { r.Sums = append(r.Sums, api.NoSum{Term: r.Known[0], Odd: []api.Term{m}}) }, false},
		"no Odd":                        {func(r *api.Refusal) { r.Sums[0].Odd = nil }, false},
		"another Odd":                   {func(r *api.Refusal) { r.Sums[0].Odd[0] = m }, false},
		"a known term in Odd":           {func(r *api.Refusal) { r.Sums[0].Odd = append(r.Sums[0].Odd, q.k[0]) }, false},
		"Odd with both":                 {func(r *api.Refusal) { r.Sums[0].Odd = []api.Term{k, m} }, true},
		"Odd with both, in wrong order": {func(r *api.Refusal) { r.Sums[0].Odd = []api.Term{m, k} }, false},
		"Odd twice":                     {func(r *api.Refusal) { r.Sums[0].Odd = []api.Term{k, k} }, false},
		"Odd with what is not there":    {func(r *api.Refusal) { r.Sums[0].Odd = append(r.Sums[0].Odd, app("zz", k)) }, true},
		"Odd with what is no term":      {func(r *api.Refusal) { r.Sums[0].Odd = append([]api.Term{{}}, r.Sums[0].Odd...) }, true},
		"no Powers":                     {func(r *api.Refusal) { r.Powers = nil }, false},
		"one of Powers missing":         {func(r *api.Refusal) { r.Powers = r.Powers[:1] }, false},
		"the first of Powers missing":   {func(r *api.Refusal) { r.Powers = r.Powers[1:] }, false},
		"one of Powers twice":           {func(r *api.Refusal) { r.Powers = append(r.Powers, r.Powers[1]) }, false},
		"one of Powers twice, in front": {func(r *api.Refusal) { r.Powers = slices.Insert(r.Powers, 0, r.Powers[0]) }, false},
		"Powers in another order":       {func(r *api.Refusal) { slices.Reverse(r.Powers) }, false},
		"another Term in Powers":        {func(r *api.Refusal) { r.Powers[1].Term = k }, false},
		"another Base":                  {func(r *api.Refusal) { r.Powers[1].Base = m }, false},
		"Base zero()":                   {func(r *api.Refusal) { r.Powers[1].Base = app("zero") }, false},
		"Base an atom one":              {func(r *api.Refusal) { r.Powers[1].Base = atom("one", 0) }, false},
		"Base with a kid":               {func(r *api.Refusal) { r.Powers[1].Base = app("one", m) }, false},
		"no Base":                       {func(r *api.Refusal) { r.Powers[1].Base = api.Term{} }, false},
		"another character":             {func(r *api.Refusal) { r.Powers[1].Shows = alone(k) }, false},
		"a character modulo 2":          {func(r *api.Refusal) { r.Powers[1].Shows.Mod = 2 }, true},
		"a character modulo 1":          {func(r *api.Refusal) { r.Powers[1].Shows.Mod = 1 }, false},
		"a character modulo -2":         {func(r *api.Refusal) { r.Powers[1].Shows.Mod = -2 }, false},
		"the greatest modulus":          {func(r *api.Refusal) { r.Powers[1].Shows.Mod = 1 << 45 }, true},
		"a modulus that is too great":   {func(r *api.Refusal) { r.Powers[1].Shows.Mod = 1<<45 + 1 }, false},
		"no values":                     {func(r *api.Refusal) { r.Powers[1].Shows.Values = nil }, false},
		"another value":                 {func(r *api.Refusal) { r.Powers[1].Shows.Values[0].N = -5 }, true},
		"value 0":                       {func(r *api.Refusal) { r.Powers[1].Shows.Values[0].N = 0 }, false},
		"the least value":               {func(r *api.Refusal) { r.Powers[1].Shows.Values[0].N = math.MinInt }, false},
		"value 2 modulo 2": {func(r *api.Refusal) {
			r.Powers[1].Shows = api.Character{Mod: 2, Values: []api.Power{{Term: m, N: 2}}}
		}, false},
		"values of all": {func(r *api.Refusal) {
			r.Powers[0].Shows.Values = []api.Power{{Term: k, N: 3}, {Term: m, N: -1}, {Term: q.k[0], N: 7}}
		}, true},
		"values twice": {func(r *api.Refusal) {
			r.Powers[0].Shows.Values = append(r.Powers[0].Shows.Values, r.Powers[0].Shows.Values...)
		}, false},
		"junk in Known":  {func(r *api.Refusal) { r.Known = junk }, false},
		"junk in Sums":   {func(r *api.Refusal) { r.Sums[0].Odd = junk }, false},
		"many of Known":  {func(r *api.Refusal) { r.Known = slices.Repeat(r.Known, 1000) }, false},
		"many of Sums":   {func(r *api.Refusal) { r.Sums = slices.Repeat(r.Sums, 1000) }, false},
		"many of Powers": {func(r *api.Refusal) { r.Powers = slices.Repeat(r.Powers, 1000) }, false},
	} {
		r := clone(right)
		c.change(&r)
		checks(t, what, q, r, c.want)
	}
	checks(t, "a zero value", q, api.Refusal{}, false)
	checks(t, "a zero value, and no question", question{}, api.Refusal{}, false)
}

// P12.1: Known has to be closed, has to have what is given and public, and not
// the term, although all other certificates are there.
func TestCheckKnown(t *testing.T) {
	for _, c := range []struct {
		k, t, known string
		want        bool
	}{
		// more than what is known is right, too, as long as it is closed
		{"enc(m:any, k:key)", "k:key", "m:any; enc(m:any, k:key)", true},
		{"enc(m:any, k:key)", "m:any", "k:key; enc(m:any, k:key)", false},
		{"enc(m:any, k:key); l:key", "k:key", "l:key; m:any; enc(m:any, k:key)", true},
		{"hash(a:any); hash(b:any)", "a:any", "b:any; hash(a:any); hash(b:any)", true},
		{"hash(a:any); hash(b:any)", "a:any", "hash(a:any); hash(b:any)", true},
		{"hash(a:any); hash(b:any)", "a:any", "hash(b:any)", false},
		{"hash(a:any); hash(b:any)", "a:any", "a:any; b:any; hash(a:any); hash(b:any)", false},
		{"hash(a:any); hash(b:any)", "a:any", "hash(b:any); hash(a:any)", false},

		// what is public
		{"", "sk(a:agent)", "a:agent", true},
		{"", "sk(a:agent)", "", false},
		{"", "sk(g:agent)", "", false},
		{"", "pair(pair(zero(), a:any), pair(g:data, e#1:key))", "zero(); e#1:key; g:data; pair(g:data, e#1:key)", false},
		{"", "pair(pair(zero(), a:any), pair(g:data, e#1:key))", "e#1:key; g:data; zero(); pair(g:data, e#1:key)", true},
		{"", "pair(pair(zero(), a:any), pair(g:data, e#1:key))", "e#1:key; zero(); pair(g:data, e#1:key)", false},

		// rules 1 and 2
		{"a:any", "pair(a:any, b:any)", "a:any", true},
		{"a:any", "pair(a:any, b:any)", "a:any; b:any", false},
		{"a:any", "pair(a:any, b:any)", "a:any; pair(a:any, b:any)", false},
		{"a:any", "enc(b:any, pk(a:any))", "a:any", false},
		{"a:any", "enc(b:any, pk(a:any))", "a:any; pk(a:any)", true},
		{"pair(a:any, b:any)", "c:any", "a:any; b:any; pair(a:any, b:any)", true},
		{"pair(a:any, b:any)", "c:any", "pair(a:any, b:any)", false},
		{"pair(a:any, b:any)", "b:any", "a:any; pair(a:any, b:any)", false},
		{"pair(a:any, b:any)", "a:any", "b:any; pair(a:any, b:any)", false},
		{"sign(a:any, b:any)", "a:any", "sign(a:any, b:any)", false},
		{"sign(a:any, b:any)", "b:any", "a:any; sign(a:any, b:any)", true},
		{"aenc(a:any, pk(b:any)); b:any", "a:any", "b:any; pk(b:any); aenc(a:any, pk(b:any))", false},
		{"aenc(a:any, pk(b:any)); pk(b:any)", "a:any", "pk(b:any); aenc(a:any, pk(b:any))", true},

		// rules 3 to 5, for which there is no certificate
		{"xor(a:any, b:any)", "a:any", "xor(a:any, b:any)", true},
		{"xor(a:any, b:any)", "a:any", "b:any; xor(a:any, b:any)", false},
		{"xor(a:any, b:any); xor(b:any, c:any)", "xor(a:any, c:any)", "xor(a:any, b:any); xor(b:any, c:any)", false},
		{"mul(x:any, y:any)", "x:any", "mul(x:any, y:any)", true},
		{"mul(x:any, y:any); x:any", "y:any", "x:any; mul(x:any, y:any)", false},
		{"mul(x:any, x:any)", "mul(x:any, x:any, x:any)", "mul(x:any, x:any)", true},
		{"mul(x:any, x:any); mul(x:any, x:any, x:any)", "x:any", "mul(x:any, x:any); mul(x:any, x:any, x:any)", false},
		{"exp(h:any, x:any); x:any", "h:any", "x:any; exp(h:any, x:any)", false},
		{"exp(h:any, x:any)", "h:any", "exp(h:any, x:any)", true},
		{"exp(h:any, x:any)", "exp(h:any, y:any)", "exp(h:any, x:any)", true},
		{"exp(h:any, x:any)", "exp(h:any, y:any)", "h:any; exp(h:any, x:any)", true},
		{"exp(h:any, x:any)", "exp(h:any, y:any)", "h:any; y:any; exp(h:any, x:any)", false},
		{"exp(h:any, x:any)", "exp(h:any, y:any)", "x:any; exp(h:any, x:any)", false},
		{"exp(h:any, x:any)", "exp(h:any, y:any)", "h:any; x:any; exp(h:any, x:any)", true},
	} {
		q := question{all(t, c.k), must(t, c.t)}
		universe, e := knowledge.Universe(q.k, q.t)
		if e != api.OK {
			t.Fatal(c.k, c.t)
		}
		checks(t, c.k+"; "+c.t+" with "+c.known, q, attempt(all(t, c.known), universe), c.want)
	}
}

// P12.1: each element of Powers has its own product: that of the term, or a
// quotient of exponents, all reduced.
func TestCheckPowers(t *testing.T) {
	q := question{all(t, "exp(h:any, x:any); exp(h:any, mul(x:any, y:any)); mul(y:any, z:any, z:any); z:any"), must(t, "h:any")}
	universe, _ := knowledge.Universe(q.k, q.t)
	known := refKnown(q.k, universe)
	r := attempt(known, universe)
	checks(t, "right", q, r, true)
	// y is known: what is missing are h, with two powers, x and mul(x, y).
	value := func(name string, n int) api.Power { return api.Power{Term: atom(name, api.SortAny), N: n} }
	for _, c := range []struct {
		values []api.Power
		want   []bool // for each element
	}{
		{[]api.Power{value("x", 1)}, []bool{false, true, true, true, true}},
		{[]api.Power{value("h", 1), value("x", 1)}, []bool{true, true, true, true, true}},
		{[]api.Power{value("h", 1)}, []bool{true, false, false, false, false}},
		{[]api.Power{value("h", 1), value("x", 1), value("y", 1)}, []bool{true, true, true, true, true}},
		{[]api.Power{value("h", 1), value("x", 1), value("z", 1)}, []bool{true, true, true, true, true}},
	} {
		for i := range r.Powers {
			if i >= len(c.want) {
				t.Fatalf("%d elements\n%s", len(r.Powers), lines(r))
			}
			changed := clone(r)
			changed.Powers[i].Shows = api.Character{Values: c.values}
			checks(t, show(c.values)+" as "+text(r.Powers[i].Term)+" | "+text(r.Powers[i].Base), q, changed, c.want[i])
		}
	}
}

// spoiled returns a refusal in which something has been changed, which may leave
// it right.
func spoiled(r *rand.Rand, c api.Refusal, universe []api.Term) api.Refusal {
	c = clone(c)
	other := func() api.Term { return pick(r, append([]api.Term{randomLeaf(r), app("one")}, universe...)) }
	switch r.IntN(12) {
	case 0:
		c.Known = slices.Insert(c.Known, r.IntN(len(c.Known)+1), other())
	case 1:
		if len(c.Known) > 0 {
			i := r.IntN(len(c.Known))
			c.Known = slices.Delete(c.Known, i, i+1)
		}
	case 2:
		i, j := r.IntN(len(c.Sums)), r.IntN(len(c.Sums))
		c.Sums[i], c.Sums[j] = c.Sums[j], c.Sums[i]
	case 3:
		c.Sums[r.IntN(len(c.Sums))].Term = other()
	case 4, 5:
		odd := &c.Sums[r.IntN(len(c.Sums))].Odd
		*odd = append(*odd, other())
		if r.IntN(4) > 0 {
			slices.SortFunc(*odd, term.Compare)
		}
	case 6:
		odd := &c.Sums[r.IntN(len(c.Sums))].Odd
		if len(*odd) > 0 {
			*odd = slices.Delete(*odd, 0, 1)
		}
	case 7:
		i, j := r.IntN(len(c.Powers)), r.IntN(len(c.Powers))
		c.Powers[i], c.Powers[j] = c.Powers[j], c.Powers[i]
	case 8:
		n := &c.Powers[r.IntN(len(c.Powers))]
		*pick(r, []*api.Term{&n.Term, &n.Base}) = other()
	case 9:
		c.Powers[r.IntN(len(c.Powers))].Shows.Mod = r.IntN(5)
	case 10:
		c.Powers[r.IntN(len(c.Powers))].Shows = pick(r, c.Powers).Shows
	case 11:
		values := &c.Powers[r.IntN(len(c.Powers))].Shows.Values
		*values = append(*values, api.Power{Term: other(), N: 1 + r.IntN(4)})
		slices.SortFunc(*values, func(a, b api.Power) int { return term.Compare(a.Term, b.Term) })
	}
	return c
}

// P12.1: Check is as the definition says, on refusals of all kinds in which
// something has been changed.
func TestCheckOfSpoiledRefusals(t *testing.T) {
	r := rand.New(rand.NewPCG(7, 7))
	var found [4][2]int
	for i := range 8000 {
		q := randomOpen(r, i%len(kinds))
		universe, _ := knowledge.Universe(q.k, q.t)
		c := spoiled(r, built(q), universe)
		if r.IntN(4) == 0 && len(c.Known) > 0 {
			c = spoiled(r, c, universe)
		}
		want := refCheck(q.k, q.t, c)
		if got := refute.Check(q.k, q.t, c); got != want {
			t.Fatalf("%s; %s: %v\n%s", texts(q.k), text(q.t), got, lines(c))
		}
		if want {
			found[i%len(kinds)][1]++
		} else {
			found[i%len(kinds)][0]++
		}
	}
	for i, n := range found {
		if n[0] < 1000 || n[1] < 200 {
			t.Errorf("kind %d: %v cases only", i, n)
		}
	}
}

// randomKnown returns terms of a universe in order, most of them closed under
// one step.
func randomKnown(r *rand.Rand, q question, universe []api.Term) []api.Term {
	k := slices.Clone(q.k)
	for range r.IntN(4) {
		k = append(k, pick(r, universe))
	}
	if r.IntN(3) > 0 {
		return refKnown(k, universe)
	}
	var known []api.Term
	for _, u := range universe {
		if has(k, u) || refPublic(u) {
			known = append(known, u)
		}
	}
	return known
}

// P12.1: Check accepts every refusal that is right, also those that have more
// than what is known.
func TestCheckOfOtherRefusals(t *testing.T) {
	r := rand.New(rand.NewPCG(8, 8))
	var found [2]int
	for i := range 4000 {
		q := randomOpen(r, i%len(kinds))
		universe, _ := knowledge.Universe(q.k, q.t)
		known := randomKnown(r, q, universe)
		c := attempt(known, universe)
		want := refCheck(q.k, q.t, c)
		if got := refute.Check(q.k, q.t, c); got != want {
			t.Fatalf("%s; %s: %v\n%s", texts(q.k), text(q.t), got, lines(c))
		}
		if closed := sameTerms(known, refKnown(known, universe)); want != (closed && !has(known, q.t)) {
			t.Fatalf("%s; %s: %v, but closed: %v\n%s", texts(q.k), text(q.t), want, closed, lines(c))
		}
		switch {
		case !want:
			found[0]++
		case !sameTerms(known, refKnown(q.k, universe)):
			found[1]++
		}
	}
	if found[0] < 1000 || found[1] < 500 {
		t.Errorf("%v cases only", found)
	}
}

// P12.1: the certificates of a right refusal are those of the layers 6 and 8.
func TestCertificates(t *testing.T) {
	r := rand.New(rand.NewPCG(9, 9))
	for i := range 2000 {
		q := randomOpen(r, i%len(kinds))
		universe, _ := knowledge.Universe(q.k, q.t)
		c := built(q)
		missing := without(universe, c.Known)
		for j, n := range c.Sums {
			if !same(n.Term, missing[j]) || !xor.CheckRefute(c.Known, n.Term, n.Odd) {
				t.Fatalf("%s; %s\n%s", texts(q.k), text(q.t), lines(c))
			}
		}
		for j, w := range refPowers(c.Known, missing) {
			n := c.Powers[j]
			if !same(n.Term, w.term) || !same(n.Base, w.base) || !exponent.CheckRefute(refGenerators(c.Known), w.product, n.Shows) {
				t.Fatalf("%s; %s\n%s", texts(q.k), text(q.t), lines(c))
			}
		}
	}
}
