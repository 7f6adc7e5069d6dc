package theory_test

import (
	"slices"

	"sealring/api"
	"sealring/term"
)

// Here the definitions are followed word by word.

// A refSymbol is a row of the table of symbols.
type refSymbol struct {
	least, most, kind int
}

// refTable is the table of the document.
func refTable() map[string]refSymbol {
	const constructor, private, destructor = 1, 2, 3
	return map[string]refSymbol{
		"pair": {2, 2, constructor}, "enc": {2, 2, constructor}, "aenc": {2, 2, constructor}, "pk": {1, 1, constructor},
		"sign": {2, 2, constructor}, "hash": {1, 1, constructor}, "xor": {2, 8, constructor}, "zero": {0, 0, constructor},
		"exp": {2, 2, constructor}, "mul": {2, 8, constructor}, "inv": {1, 1, constructor}, "one": {0, 0, constructor},
		"sk": {1, 1, private}, "shk": {2, 2, private}, "new": {1, 8, private},
		"fst": {1, 1, destructor}, "snd": {1, 1, destructor}, "dec": {2, 2, destructor},
		"adec": {2, 2, destructor}, "open": {2, 2, destructor}, "read": {1, 1, destructor},
	}
}

// refValid is Valid.
func refValid(t api.Term) api.Errno {
	if e := term.Valid(t); e != api.OK {
		return e
	}
	for _, p := range term.Positions(t) {
		u, _ := term.At(t, p)
		if u.Kind != api.TermApp {
			continue
		}
		s, found := refTable()[u.Name]
		switch {
		case !found:
			return api.ErrType
		case len(u.Kids) < s.least || len(u.Kids) > s.most:
			return api.ErrArity
		}
		for i, kid := range u.Kids {
			leaf := kid.Kind == api.TermAtom || kid.Kind == api.TermVar
			if (u.Name == "sk" || u.Name == "shk") && !(leaf && kid.Sort == api.SortAgent) {
				return api.ErrType
			}
			if u.Name == "new" && i == 0 && kid.Kind != api.TermAtom {
				return api.ErrType
			}
		}
	}
	return api.OK
}

// refFree is Free.
func refFree(t api.Term) bool {
	return refValid(t) == api.OK && !slices.ContainsFunc(term.Subterms([]api.Term{t}), func(u api.Term) bool {
		algebraic := slices.Contains([]string{"xor", "zero", "exp", "mul", "inv", "one"}, u.Name)
		return u.Kind == api.TermApp && (algebraic || refTable()[u.Name].kind == 3)
	})
}

// refPlain is Plain.
func refPlain(t api.Term) bool {
	if refValid(t) != api.OK {
		return false
	}
	for _, u := range term.Subterms([]api.Term{t}) {
		if u.Kind == api.TermApp && refTable()[u.Name].kind == 3 {
			return false
		}
	}
	n, e := refNormal(t)
	return e == api.OK && same(n, t)
}

// refRules are the destructor rules.
func refRules() []api.Rule {
	var l []api.Rule
	for _, s := range []struct{ left, right string }{
		{"fst(pair(?x, ?y))", "?x"},
		{"snd(pair(?x, ?y))", "?y"},
		{"dec(enc(?x, ?y), ?y)", "?x"},
		{"adec(aenc(?x, pk(?y)), ?y)", "?x"},
		{"open(sign(?x, ?y), pk(?y))", "?x"},
		{"read(sign(?x, ?y))", "?x"},
	} {
		left, _ := term.Parse(s.left)
		right, _ := term.Parse(s.right)
		l = append(l, api.Rule{Left: left, Right: right})
	}
	return l
}

// refMatch reports whether t, of any size, is the instance of a pattern by the
// values of its variables, which are added to what is known of them.
func refMatch(pattern, t api.Term, values map[string]api.Term) bool {
	if pattern.Kind == api.TermVar {
		if known, bound := values[pattern.Name]; bound {
			return same(known, t)
		}
		values[pattern.Name] = t
		return true
	}
	if pattern.Kind != t.Kind || pattern.Name != t.Name || len(pattern.Kids) != len(t.Kids) {
		return false
	}
	for i := range pattern.Kids {
		if !refMatch(pattern.Kids[i], t.Kids[i], values) {
			return false
		}
	}
	return true
}

// refNormal is Normal.
func refNormal(t api.Term) (api.Term, api.Errno) {
	if e := refValid(t); e != api.OK {
		return api.Term{}, e
	}
	n, e := refSteps(t)
	if e == api.OK {
		e = term.Valid(n)
	}
	if e != api.OK {
		return api.Term{}, e
	}
	return n, api.OK
}

// refSteps goes from the kids to the node.
func refSteps(t api.Term) (api.Term, api.Errno) {
	n := api.Term{Kind: t.Kind, Name: t.Name, Sort: t.Sort}
	for _, kid := range t.Kids {
		k, e := refSteps(kid)
		if e != api.OK {
			return api.Term{}, e
		}
		n.Kids = append(n.Kids, k)
	}
	if n.Kind != api.TermApp {
		return n, api.OK
	}
	for _, rule := range refRules() {
		values := map[string]api.Term{}
		if refMatch(rule.Left, n, values) {
			return values[rule.Right.Name], api.OK
		}
	}
	switch n.Name {
	case "xor":
		return refSum(n.Kids)
	case "mul", "inv", "one":
		return refProductTerm(n)
	case "exp":
		return refPower(n)
	}
	return n, api.OK
}

// refSum is the sum of the kids of an xor.
func refSum(kids []api.Term) (api.Term, api.Errno) {
	var all, odd []api.Term
	for _, kid := range kids {
		if e := term.Valid(kid); e != api.OK {
			return api.Term{}, e
		}
		// Kids in normal form have no sums within their sums.
		switch {
		case kid.Kind == api.TermApp && kid.Name == "zero":
		case kid.Kind == api.TermApp && kid.Name == "xor":
			all = append(all, kid.Kids...)
		default:
			all = append(all, kid)
		}
	}
	slices.SortFunc(all, term.Compare)
	for len(all) > 0 {
		count := 0
		for count < len(all) && same(all[0], all[count]) {
			count++
		}
		if count%2 == 1 {
			odd = append(odd, all[0])
		}
		all = all[count:]
	}
	n := app("xor", odd...)
	switch len(odd) {
	case 0:
		n = app("zero")
	case 1:
		n = odd[0]
	}
	if term.Valid(n) != api.OK {
		return api.Term{}, api.ErrTooLarge
	}
	return n, api.OK
}

// refFactors appends the factors of t to the power n, which is 1 or -1, to two
// lists: those with positive and those with negative powers.
func refFactors(t api.Term, n int, up, down []api.Term) ([]api.Term, []api.Term) {
	switch {
	case t.Kind == api.TermApp && t.Name == "inv":
		return refFactors(t.Kids[0], -n, up, down)
	case t.Kind == api.TermApp && (t.Name == "mul" || t.Name == "one"):
		for _, kid := range t.Kids {
			up, down = refFactors(kid, n, up, down)
		}
		return up, down
	case n == 1:
		return append(up, t), down
	}
	return up, append(down, t)
}

// refCancel takes each factor away that occurs in both lists, as often as it
// does, and returns what is left, in order.
func refCancel(up, down []api.Term) ([]api.Term, []api.Term) {
	for i := 0; i < len(up); {
		k := slices.IndexFunc(down, func(t api.Term) bool { return same(up[i], t) })
		if k < 0 {
			i++
			continue
		}
		up, down = slices.Delete(up, i, i+1), slices.Delete(down, k, k+1)
	}
	slices.SortFunc(up, term.Compare)
	slices.SortFunc(down, term.Compare)
	return up, down
}

// refOperands returns the term of a product.
func refOperands(up, down []api.Term) (api.Term, api.Errno) {
	l := slices.Clone(up)
	for _, f := range down {
		l = append(l, app("inv", f))
	}
	n := app("mul", l...)
	switch len(l) {
	case 0:
		n = app("one")
	case 1:
		n = l[0]
	}
	if len(l) > 8 || term.Valid(n) != api.OK {
		return api.Term{}, api.ErrTooLarge
	}
	return n, api.OK
}

// refProductTerm is the term of the product of a term.
func refProductTerm(t api.Term) (api.Term, api.Errno) {
	if e := term.Valid(t); e != api.OK {
		return api.Term{}, e
	}
	return refOperands(refCancel(refFactors(t, 1, nil, nil)))
}

// refPower is the normal form of exp(b, e) for b and e in normal form.
func refPower(t api.Term) (api.Term, api.Errno) {
	base, e := t.Kids[0], t.Kids[1]
	if e := term.Valid(e); e != api.OK {
		return api.Term{}, e
	}
	up, down := refFactors(e, 1, nil, nil)
	if base.Kind == api.TermApp && base.Name == "exp" {
		up, down = refFactors(base.Kids[1], 1, up, down)
		base = base.Kids[0]
	}
	up, down = refCancel(up, down)
	if len(up)+len(down) == 0 {
		return base, api.OK
	}
	whole, err := refOperands(up, down)
	if err != api.OK {
		return api.Term{}, err
	}
	return app("exp", base, whole), api.OK
}
