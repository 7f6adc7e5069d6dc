package proof_test

import (
	"math/big"
	"regexp"
	"slices"
	"strconv"
	"strings"

	"sealring/api"
	"sealring/exponent"
	"sealring/knowledge"
	"sealring/term"
	"sealring/theory"
	"sealring/xor"
)

// Here the definitions are followed word by word.

// A row is a row of the table of rules.
type row struct {
	word   string
	args   func(n int) bool // the number of Args
	coeffs func(n int) int  // that of Coeffs, for this number of Args
}

// table is the table of rules.
var table = map[int]row{
	1:  {"given", exactly(0), none},
	2:  {"public", exactly(0), none},
	3:  {"pair", exactly(2), none},
	4:  {"first", exactly(1), none},
	5:  {"second", exactly(1), none},
	6:  {"enc", exactly(2), none},
	7:  {"dec", exactly(2), none},
	8:  {"aenc", exactly(2), none},
	9:  {"adec", exactly(2), none},
	10: {"pk", exactly(1), none},
	11: {"sign", exactly(2), none},
	12: {"read", exactly(1), none},
	13: {"hash", exactly(1), none},
	14: {"sum", func(n int) bool { return true }, none},
	15: {"power", func(n int) bool { return n >= 1 }, func(n int) int { return n - 1 }},
	16: {"product", func(n int) bool { return true }, func(n int) int { return n }},
}

func exactly(m int) func(n int) bool {
	return func(n int) bool { return n == m }
}

func none(n int) int {
	return 0
}

// refTerm reports whether a term is valid in the theory, ground and plain.
func refTerm(t api.Term) bool {
	return theory.Valid(t) == api.OK && len(term.Vars(t)) == 0 && theory.Plain(t)
}

// refCheck is Check.
func refCheck(k []api.Term, l []api.Deduction, t api.Term) bool {
	if len(k) > 200 || len(l) < 1 || len(l) > 400 || !refTerm(t) || !same(last(l), t) {
		return false
	}
	for _, x := range k {
		if !refTerm(x) {
			return false
		}
	}
	for i, d := range l {
		if !refTerm(d.Term) || !refStep(k, l, i) {
			return false
		}
	}
	return true
}

// refStep reports whether a step is right.
func refStep(k []api.Term, l []api.Deduction, i int) bool {
	d := l[i]
	r, found := table[d.Rule]
	if !found || !r.args(len(d.Args)) || len(d.Coeffs) != r.coeffs(len(d.Args)) || d.Rule != 1 && d.N != 0 {
		return false
	}
	var args []api.Term
	for _, a := range d.Args {
		if a < 0 || a >= i {
			return false
		}
		args = append(args, l[a].Term)
	}
	for _, c := range d.Coeffs {
		if c < -1<<45 || c > 1<<45 {
			return false
		}
	}
	switch d.Rule {
	case 1:
		return d.N >= 0 && d.N < len(k) && same(k[d.N], d.Term)
	case 2:
		return knowledge.Public(d.Term)
	case 14:
		return refSum(args, d.Term)
	case 15:
		return refPower(args, d.Coeffs, d.Term)
	case 16:
		return refProduct(args, d.Coeffs, refExponent(d.Term))
	}
	return refFree(r.word, args, d.Term)
}

// refFree follows the rules from pair to hash.
func refFree(word string, l []api.Term, u api.Term) bool {
	switch word {
	case "first":
		return applies(l[0], "pair") && same(l[0].Kids[0], u)
	case "second":
		return applies(l[0], "pair") && same(l[0].Kids[1], u)
	case "dec":
		return applies(l[0], "enc") && same(l[0].Kids[0], u) && same(l[0].Kids[1], l[1])
	case "adec":
		return applies(l[0], "aenc") && same(l[0].Kids[0], u) && applies(l[0].Kids[1], "pk") && same(l[0].Kids[1].Kids[0], l[1])
	case "read":
		return applies(l[0], "sign") && same(l[0].Kids[0], u)
	}
	return applies(u, word) && slices.EqualFunc(u.Kids, l, same)
}

// refSum reports whether u is the sum of terms. There is none of more than 200.
func refSum(l []api.Term, u api.Term) bool {
	odd := map[string]bool{}
	for _, t := range append(slices.Clone(l), u) {
		parts, _ := xor.Parts(t)
		for _, p := range parts {
			odd[text(p)] = !odd[text(p)]
		}
	}
	for _, is := range odd {
		if is {
			return false
		}
	}
	return len(l) <= 200
}

// refExponent returns the product of a term.
func refExponent(t api.Term) []api.Power {
	l, e := exponent.Of(t)
	if e != api.OK {
		panic("no product: " + text(t))
	}
	return l
}

// refPower is the rule ByPower.
func refPower(l []api.Term, coeffs []int, u api.Term) bool {
	parts := func(t api.Term) (api.Term, []api.Power) {
		if applies(t, "exp") {
			return t.Kids[0], refExponent(t.Kids[1])
		}
		return t, nil
	}
	b, e := parts(u)
	c, f := parts(l[0])
	return same(b, c) && refProduct(l[1:], coeffs, slices.Concat(e, exponent.Inverse(f)))
}

// refProduct reports whether terms to these powers have a product, which may
// have factors twice. There is none of more than 200 terms.
func refProduct(l []api.Term, coeffs []int, product []api.Power) bool {
	left := map[string]*big.Int{}
	add := func(p api.Power, n int) {
		s := text(p.Term)
		if left[s] == nil {
			left[s] = big.NewInt(0)
		}
		left[s].Add(left[s], new(big.Int).Mul(big.NewInt(int64(p.N)), big.NewInt(int64(n))))
	}
	for i, t := range l {
		for _, p := range refExponent(t) {
			add(p, coeffs[i])
		}
	}
	for _, p := range product {
		add(p, -1)
	}
	for _, n := range left {
		if n.Sign() != 0 {
			return false
		}
	}
	return len(l) <= 200
}

// refLocal is Local.
func refLocal(k []api.Term, l []api.Deduction) bool {
	if len(l) == 0 || !refCheck(k, l, last(l)) {
		return false
	}
	universe, e := knowledge.Universe(k, last(l))
	for _, d := range l {
		if !has(universe, d.Term) {
			return false
		}
	}
	return e == api.OK
}

// refTrim is Trim.
func refTrim(l []api.Deduction) []api.Deduction {
	for i, d := range l {
		for _, a := range d.Args {
			if a < 0 || a >= i {
				return l
			}
		}
	}
	if len(l) == 0 {
		return nil
	}
	needed := map[int]bool{}
	var visit func(i int)
	visit = func(i int) {
		if !needed[i] {
			needed[i] = true
			for _, a := range l[i].Args {
				visit(a)
			}
		}
	}
	visit(len(l) - 1)
	earlier := func(i int) int {
		n := 0
		for a := range i {
			if needed[a] {
				n++
			}
		}
		return n
	}
	var out []api.Deduction
	for i, d := range l {
		if needed[i] {
			d.Args = slices.Clone(d.Args)
			for j, a := range d.Args {
				d.Args[j] = earlier(a)
			}
			out = append(out, d)
		}
	}
	return out
}

// refJoin is Join.
func refJoin(l, m []api.Deduction) ([]api.Deduction, api.Errno) {
	if len(l) == 0 || len(m) == 0 {
		return nil, api.ErrEmpty
	}
	leftOut := func(i int) bool { return m[i].Rule == 1 && same(m[i].Term, last(l)) }
	place := func(i int) int {
		if leftOut(i) {
			return len(l) - 1
		}
		n := len(l)
		for a := range i {
			if !leftOut(a) {
				n++
			}
		}
		return n
	}
	out := slices.Clone(l)
	for i, d := range m {
		if leftOut(i) {
			continue
		}
		d.Args = slices.Clone(d.Args)
		for j, a := range d.Args {
			d.Args[j] = -1
			if a >= 0 && a < i {
				d.Args[j] = place(a)
			}
		}
		out = append(out, d)
	}
	if leftOut(len(m) - 1) {
		out = l
	}
	if len(out) > 400 {
		return nil, api.ErrTooLarge
	}
	return out, api.OK
}

// refFormat is Format.
func refFormat(l []api.Deduction) (string, api.Errno) {
	if len(l) > 400 {
		return "", api.ErrTooLarge
	}
	s := ""
	for i, d := range l {
		line, e := refLine(d, i)
		if e != api.OK {
			return "", e
		}
		s += line
	}
	if len(s) > 65536 {
		return "", api.ErrTooLarge
	}
	return s, api.OK
}

// refLine returns the line of a step.
func refLine(d api.Deduction, i int) (string, api.Errno) {
	r, found := table[d.Rule]
	switch {
	case !found:
		return "", api.ErrInvalid
	case !r.args(len(d.Args)) || len(d.Coeffs) != r.coeffs(len(d.Args)):
		return "", api.ErrArity
	case d.N < 0 || d.N > 1000000 || d.Rule != 1 && d.N != 0:
		return "", api.ErrRange
	}
	words := []string{r.word}
	if d.Rule == 1 {
		words = append(words, strconv.Itoa(d.N))
	}
	for j, a := range d.Args {
		if a < 0 || a >= i {
			return "", api.ErrRange
		}
		word := strconv.Itoa(a)
		if d.Rule == 16 {
			word += "^" + strconv.Itoa(d.Coeffs[j])
		}
		if d.Rule == 15 && j > 0 {
			word += "^" + strconv.Itoa(d.Coeffs[j-1])
		}
		words = append(words, word)
	}
	for _, c := range d.Coeffs {
		if c < -1<<45 || c > 1<<45 {
			return "", api.ErrRange
		}
	}
	t, e := term.Format(d.Term)
	return strings.Join(words, " ") + ": " + t + "\n", e
}

// line is the form of a line of a text.
var line = regexp.MustCompile(`^(?:given (0|[1-9][0-9]*)|public|(?:first|second|pk|read|hash)( N)|(?:pair|enc|dec|aenc|adec|sign)( N N)|sum(( N)*)|power( N( N\^Z)*)|product(( N\^Z)*)): (.*)$`)

// numeral is the form of a number in front of a Term, with what divides it from
// what stands before.
var numeral = regexp.MustCompile(`( |\^)(-?)(0|[1-9][0-9]*)`)

// refParses reports whether a text is that of a derivation, by its form.
func refParses(s string) bool {
	if s == "" {
		return true
	}
	body, ended := strings.CutSuffix(s, "\n")
	if !ended {
		return false
	}
	for i, l := range strings.Split(body, "\n") {
		front, t, _ := strings.Cut(l, ":")
		if _, e := term.Parse(strings.TrimPrefix(t, " ")); e != api.OK || !refFront(front, i) || !strings.HasPrefix(t, " ") {
			return false
		}
	}
	return true
}

// refFront reports whether what stands in front of a Term is right.
func refFront(front string, i int) bool {
	ok := true
	given := strings.HasPrefix(front, "given ")
	form := numeral.ReplaceAllStringFunc(front, func(s string) string {
		n, err := strconv.Atoi(s[1:])
		switch {
		case err != nil || s[1:] == "-0":
			ok = false
		case s[0] == '^':
			ok = ok && n >= -1<<45 && n <= 1<<45
			return "^Z"
		case given:
			ok = ok && n >= 0 && n <= 1000000
			return s
		default:
			ok = ok && n >= 0 && n < i
		}
		return " N"
	})
	return ok && line.MatchString(form+": ")
}
