package proof_test

import (
	"math"
	"math/rand/v2"
	"slices"
	"strconv"
	"strings"
	"testing"
	"time"

	"sealring/api"
	"sealring/proof"
)

// sample is a derivation, right or not, with a step of each rule.
func sample() []api.Deduction {
	a := atom("a", api.SortAny)
	return []api.Deduction{
		{Rule: api.ByGiven, N: 12, Term: a},
		{Rule: api.ByPublic, Term: app("zero")},
		{Rule: api.ByPair, Args: []int{0, 1}, Term: app("pair", a, app("zero"))},
		{Rule: api.ByFirst, Args: []int{2}, Term: a},
		{Rule: api.BySecond, Args: []int{2}, Term: a},
		{Rule: api.ByEnc, Args: []int{4, 4}, Term: a},
		{Rule: api.ByDec, Args: []int{5, 0}, Term: a},
		{Rule: api.ByAenc, Args: []int{0, 6}, Term: a},
		{Rule: api.ByAdec, Args: []int{7, 0}, Term: variable("x", api.SortKey)},
		{Rule: api.ByPk, Args: []int{8}, Term: a},
		{Rule: api.BySign, Args: []int{9, 9}, Term: a},
		{Rule: api.ByRead, Args: []int{10}, Term: a},
		{Rule: api.ByHash, Args: []int{11}, Term: app("f", a, a)},
		{Rule: api.BySum, Term: a},
		{Rule: api.BySum, Args: []int{12, 3, 12}, Term: a},
		{Rule: api.ByPower, Args: []int{14}, Term: a},
		{Rule: api.ByPower, Args: []int{14, 0, 15}, Coeffs: []int{-3, 1 << 45}, Term: a},
		{Rule: api.ByProduct, Term: a},
		{Rule: api.ByProduct, Args: []int{14, 0}, Coeffs: []int{0, -1 << 45}, Term: a},
		{Rule: api.ByGiven, N: 1000000, Term: app("f")},
	}
}

const sampleText = `given 12: a:any
public: zero()
pair 0 1: pair(a:any, zero())
first 2: a:any
second 2: a:any
enc 4 4: a:any
dec 5 0: a:any
aenc 0 6: a:any
adec 7 0: ?x:key
pk 8: a:any
sign 9 9: a:any
read 10: a:any
hash 11: f(a:any, a:any)
sum: a:any
sum 12 3 12: a:any
power 14: a:any
power 14 0^-3 15^35184372088832: a:any
product: a:any
product 14^0 0^-35184372088832: a:any
given 1000000: f()
`

// P11.1: the text of a derivation, right or not, and back.
func TestTexts(t *testing.T) {
	l := sample()
	before := show(l)
	s, e := proof.Format(l)
	if s != sampleText || e != api.OK {
		t.Errorf("Format: %v\n%s", e, s)
	}
	got, e := proof.Parse(sampleText)
	if e != api.OK || !sameSteps(got, l) {
		t.Errorf("Parse: %v\n%s", e, show(got))
	}
	isNew(t, "Parse", got)
	if show(l) != before {
		t.Error("an argument has changed")
	}
	if s, e := proof.Format(nil); s != "" || e != api.OK {
		t.Errorf("Format of no steps: %q, %v", s, e)
	}
	if l, e := proof.Parse(""); len(l) != 0 || e != api.OK {
		t.Errorf("Parse of no text: %v, %v", l, e)
	}
}

// P11.1: texts that are no texts of derivations.
func TestParseErrors(t *testing.T) {
	const a = "given 0: a:any\n"
	for _, s := range []string{
		// lines
		"\n", " ", " \n", "given 0: a:any", a + "\n", "\n" + a, a + "given 0: a:any", a + a[:5], "given 0: a:any\r\n", a + " ", "\x00\n", "given 0: a:any\n\n" + a,
		// the colon, the space, and the Term
		"given 0 a:any\n", "given 0:a:any\n", "given 0 : a:any\n", "given 0:  a:any\n", "given 0: a:any \n", "given 0: \n", "given 0:\n", "given 0\n", ": a:any\n", "given 0: : a:any\n", "given 0: a\n", "given 0: a:\n", "given 0: a:any, b:any\n", "given 0: f(a:any,b:any)\n", "given 0: ?x:any\n", "given 0: 1:any\n", "a:any\n",
		// words
		"Given 0: a:any\n", "giv 0: a:any\n", "given0: a:any\n", " given 0: a:any\n", "other: a:any\n", "1 0: a:any\n", "publi: a:any\n", "publicc: a:any\n", "0: a:any\n",
		// given and public
		"given: a:any\n", "given : a:any\n", "given  0: a:any\n", "given 0 : a:any\n", "given 0 0: a:any\n", "given x: a:any\n", "given 00: a:any\n", "given 01: a:any\n", "given -0: a:any\n", "given -1: a:any\n", "given +1: a:any\n", "given 1.0: a:any\n", "given 1e3: a:any\n", "given 0x1: a:any\n", "given 1_0: a:any\n", "given 1000001: a:any\n", "given 99999999999999999999: a:any\n", "given 0^1: a:any\n", a + "given 0^1: a:any\n", a + "given 0 0: a:any\n",
		"public : a:agent\n", "public 0: a:agent\n", a + "public 0: a:agent\n", "public^1: a:agent\n",
		// Args
		a + "pair 0: a:any\n", a + "pair 0 0 0: a:any\n", a + "pair: a:any\n", a + "pair 0 1: a:any\n", a + "pair 0 -1: a:any\n", a + "pair 0  0: a:any\n", a + "pair 0, 0: a:any\n", a + "pair 0 0^1: a:any\n", a + "pair 0 00: a:any\n", a + "pair 0 +0: a:any\n", a + "pair 0 -0: a:any\n", a + "pair 0 x: a:any\n",
		a + "first: a:any\n", a + "first 0 0: a:any\n", a + "second 1: a:any\n", a + "enc 0: a:any\n", a + "dec 0 0 0: a:any\n", a + "aenc: a:any\n", a + "adec 0: a:any\n", a + "pk 0 0: a:any\n", a + "sign 0: a:any\n", a + "read 0 0: a:any\n", a + "hash: a:any\n", a + "hash 2: a:any\n", "hash 0: a:any\n",
		// Coeffs
		a + "sum 0^1: a:any\n", a + "sum 1: a:any\n", a + "sum 0 : a:any\n", a + "sum 0 0 2: a:any\n",
		a + "power: a:any\n", a + "power 0^1: a:any\n", a + "power 0 0: a:any\n", a + "power 0^1 0: a:any\n", a + "power 0 0^1 0: a:any\n", a + "power 0 0^1^1: a:any\n", a + "power 0 0^: a:any\n", a + "power 0 ^1: a:any\n", a + "power 0 1^1: a:any\n", a + "power 0 0^35184372088833: a:any\n",
		a + "product 0: a:any\n", a + "product 0^+1: a:any\n", a + "product 0^-0: a:any\n", a + "product 0^01: a:any\n", a + "product 0 ^1: a:any\n", a + "product 0^1 0: a:any\n", a + "product 0 0^1: a:any\n", a + "product 0^ 1: a:any\n", a + "product 0^x: a:any\n", a + "product 1^1: a:any\n", a + "product -1^1: a:any\n", a + "product 0^-35184372088833: a:any\n", a + "product 0^9223372036854775808: a:any\n",
	} {
		if l, e := proof.Parse(s); e != api.ErrSyntax || len(l) != 0 {
			t.Errorf("%q: %v, %v", s, l, e)
		}
		if refParses(s) {
			t.Errorf("%q: right by its form", s)
		}
	}
	// A Term that is too large is not one that Format accepts.
	for _, x := range []string{"f(" + strings.Repeat("a:any, ", 8) + "a:any)", strings.Repeat("f(", 40) + "a:any" + strings.Repeat(")", 40)} {
		if l, e := proof.Parse("given 0: " + x + "\n"); e != api.ErrSyntax || len(l) != 0 {
			t.Errorf("%s: %v", x, e)
		}
	}
}

// P11.1: the errors of Format, in their order.
func TestFormatErrors(t *testing.T) {
	a := atom("a", api.SortAny)
	given := api.Deduction{Rule: api.ByGiven, Term: a}
	bad := api.Term{}
	for what, c := range map[string]struct {
		l    []api.Deduction
		want api.Errno
	}{
		"401 steps":                  {slices.Repeat([]api.Deduction{given}, 401), api.ErrTooLarge},
		"401 steps that are wrong":   {make([]api.Deduction, 401), api.ErrTooLarge},
		"400 steps that are wrong":   {make([]api.Deduction, 400), api.ErrInvalid},
		"rule 0":                     {[]api.Deduction{{Term: a}}, api.ErrInvalid},
		"rule 17":                    {[]api.Deduction{{Rule: 17, Term: a}}, api.ErrInvalid},
		"rule -1":                    {[]api.Deduction{{Rule: -1, Term: a}}, api.ErrInvalid},
		"the least rule":             {[]api.Deduction{{Rule: math.MinInt, Term: a}}, api.ErrInvalid},
		"rule before the rest":       {[]api.Deduction{{Rule: 17, N: -1, Args: []int{5}, Coeffs: []int{1 << 50}}}, api.ErrInvalid},
		"given, Args":                {[]api.Deduction{given, {Rule: api.ByGiven, Args: []int{0}, Term: a}}, api.ErrArity},
		"given, Coeffs":              {[]api.Deduction{{Rule: api.ByGiven, Coeffs: []int{0}, Term: a}}, api.ErrArity},
		"public, Args":               {[]api.Deduction{given, {Rule: api.ByPublic, Args: []int{0}, Term: a}}, api.ErrArity},
		"pair, one of Args":          {[]api.Deduction{given, {Rule: api.ByPair, Args: []int{0}, Term: a}}, api.ErrArity},
		"pair, three Args":           {[]api.Deduction{given, {Rule: api.ByPair, Args: []int{0, 0, 0}, Term: a}}, api.ErrArity},
		"hash, Coeffs":               {[]api.Deduction{given, {Rule: api.ByHash, Args: []int{0}, Coeffs: []int{1}, Term: a}}, api.ErrArity},
		"sum, Coeffs":                {[]api.Deduction{given, {Rule: api.BySum, Args: []int{0}, Coeffs: []int{1}, Term: a}}, api.ErrArity},
		"power, no Args":             {[]api.Deduction{{Rule: api.ByPower, Term: a}}, api.ErrArity},
		"power, as many Coeffs":      {[]api.Deduction{given, {Rule: api.ByPower, Args: []int{0}, Coeffs: []int{1}, Term: a}}, api.ErrArity},
		"power, too few Coeffs":      {[]api.Deduction{given, {Rule: api.ByPower, Args: []int{0, 0}, Term: a}}, api.ErrArity},
		"product, too few Coeffs":    {[]api.Deduction{given, {Rule: api.ByProduct, Args: []int{0}, Term: a}}, api.ErrArity},
		"product, too many Coeffs":   {[]api.Deduction{{Rule: api.ByProduct, Coeffs: []int{1}, Term: a}}, api.ErrArity},
		"numbers before their range": {[]api.Deduction{{Rule: api.ByPair, N: 1, Args: []int{7}}}, api.ErrArity},
		"its own index":              {[]api.Deduction{{Rule: api.ByHash, Args: []int{0}, Term: a}}, api.ErrRange},
		"a later index":              {[]api.Deduction{{Rule: api.BySum, Args: []int{1}, Term: a}, given}, api.ErrRange},
		"a negative index":           {[]api.Deduction{given, {Rule: api.BySum, Args: []int{0, -1}, Term: a}}, api.ErrRange},
		"N -1":                       {[]api.Deduction{{Rule: api.ByGiven, N: -1, Term: a}}, api.ErrRange},
		"N too great":                {[]api.Deduction{{Rule: api.ByGiven, N: 1000001, Term: a}}, api.ErrRange},
		"N 1000000":                  {[]api.Deduction{{Rule: api.ByGiven, N: 1000000, Term: a}}, api.OK},
		"N of another rule":          {[]api.Deduction{{Rule: api.ByPublic, N: 1, Term: a}}, api.ErrRange},
		"N -1 of another rule":       {[]api.Deduction{{Rule: api.BySum, N: -1, Term: a}}, api.ErrRange},
		"a great coefficient":        {[]api.Deduction{given, {Rule: api.ByProduct, Args: []int{0}, Coeffs: []int{1<<45 + 1}, Term: a}}, api.ErrRange},
		"a small coefficient":        {[]api.Deduction{given, {Rule: api.ByPower, Args: []int{0, 0}, Coeffs: []int{-1<<45 - 1}, Term: a}}, api.ErrRange},
		"range before the Term":      {[]api.Deduction{{Rule: api.ByPublic, N: 1, Term: bad}}, api.ErrRange},
		"no Term":                    {[]api.Deduction{{Rule: api.ByGiven}}, api.ErrInvalid},
		"no name":                    {[]api.Deduction{{Rule: api.ByGiven, Term: atom("", 0)}}, api.ErrSyntax},
		"9 kids":                     {[]api.Deduction{{Rule: api.ByGiven, Term: app("f", atoms("a", 9)...)}}, api.ErrTooLarge},
		"the first of two":           {[]api.Deduction{{Rule: api.ByGiven, Term: atom("", 0)}, {}}, api.ErrSyntax},
		"the first of two, too":      {[]api.Deduction{{Rule: api.BySum, Args: []int{0}, Term: a}, {}}, api.ErrRange},
	} {
		s, e := proof.Format(c.l)
		if e != c.want || (e == api.OK) != (s != "") {
			t.Errorf("%s: %q, %v, not %v", what, s, e, c.want)
		}
		if want, f := refFormat(c.l); e != f || s != want {
			t.Errorf("%s: %q, %v by the definition", what, want, f)
		}
	}
	for _, rule := range []int{3, 4, 5, 6, 7, 8, 9, 10, 11, 12, 13} {
		for n := range 4 {
			l := []api.Deduction{given, {Rule: rule, Args: make([]int, n), Term: a}}
			_, e := proof.Format(l)
			if _, want := refFormat(l); e != want {
				t.Errorf("rule %d with %d Args: %v", rule, n, e)
			}
		}
	}
}

// P11.1: the limits of texts, in bytes and lines.
func TestTextLimits(t *testing.T) {
	// Lines of 164 bytes, of which 399 and one of 100 make 65536.
	long := app("f", slices.Repeat([]api.Term{atom("abcdefghijklm", api.SortAny)}, 8)...)
	l := slices.Repeat([]api.Deduction{{Rule: api.ByGiven, Term: long}}, 400)
	size := func() int {
		n := 0
		for _, d := range l {
			n += len("given : \n") + len(strconv.Itoa(d.N)) + len(text(d.Term))
		}
		return n
	}
	for i := 0; size() < api.MaxText; i = (i + 1) % 400 {
		l[i].N = l[i].N*10 + 1
	}
	for i := 0; size() > api.MaxText; i++ {
		l[i].N /= 10
	}
	s, e := proof.Format(l)
	if e != api.OK || len(s) != api.MaxText {
		t.Errorf("Format: %d bytes, %v", len(s), e)
	}
	if got, e := proof.Parse(s); e != api.OK || !sameSteps(got, l) {
		t.Errorf("Parse: %d bytes, %v", len(s), e)
	}
	last := &l[399]
	last.N = last.N*10 + 1
	if s, e := proof.Format(l); e != api.ErrTooLarge || s != "" {
		t.Errorf("Format of more: %d bytes, %v", len(s), e)
	}
	last.Rule = 0
	if s, e := proof.Format(l); e != api.ErrInvalid || s != "" {
		t.Errorf("Format of more, with an error: %d bytes, %v", len(s), e)
	}
	const a = "given 0: a:any\n"
	for what, c := range map[string]struct {
		s    string
		want api.Errno
	}{
		"65537 bytes":                     {s + "x", api.ErrTooLarge},
		"65537 bytes of nothing":          {strings.Repeat(" ", api.MaxText+1), api.ErrTooLarge},
		"65536 bytes of nothing":          {strings.Repeat(" ", api.MaxText), api.ErrSyntax},
		"400 lines":                       {strings.Repeat(a, 400), api.OK},
		"401 lines":                       {strings.Repeat(a, 401), api.ErrTooLarge},
		"401 lines, the last one no line": {strings.Repeat(a, 400) + a[:3], api.ErrTooLarge},
		"400 lines, the last one no line": {strings.Repeat(a, 399) + a[:len(a)-1], api.ErrSyntax},
		"401 lines that are empty":        {strings.Repeat("\n", 401), api.ErrTooLarge},
		"400 lines that are empty":        {strings.Repeat("\n", 400), api.ErrSyntax},
		"400 empty lines and a space":     {strings.Repeat("\n", 400) + " ", api.ErrTooLarge},
	} {
		l, e := proof.Parse(c.s)
		if e != c.want || (e == api.OK) != (len(l) == 400) {
			t.Errorf("%s: %d, %v", what, len(l), e)
		}
	}
}

// P11.1: Format is as the definition says, on random steps, right or not.
func TestFormatOfRandomSteps(t *testing.T) {
	r := rand.New(rand.NewPCG(6, 6))
	found := map[api.Errno]int{}
	for range 20000 {
		l := randomSteps(r, 4)
		s, e := proof.Format(l)
		want, f := refFormat(l)
		if e != f || s != want {
			t.Fatalf("%s: %q, %v, not %q, %v", show(l), s, e, want, f)
		}
		found[e]++
	}
	for _, e := range []api.Errno{api.OK, api.ErrInvalid, api.ErrArity, api.ErrRange} {
		if found[e] < 300 {
			t.Errorf("%v: %d cases only", e, found[e])
		}
	}
}

// changed returns a text in which a few bytes have been changed.
func changed(r *rand.Rand, s string) string {
	const bytes = "0123456789^-+: \n\tagivenpublicsumx(),?"
	for range 1 + r.IntN(2) {
		at := r.IntN(len(s) + 1)
		b := bytes[r.IntN(len(bytes)):][:1]
		switch {
		case at == len(s) || r.IntN(3) == 0:
			s = s[:at] + b + s[at:]
		case r.IntN(2) == 0:
			s = s[:at] + s[at+1:]
		default:
			s = s[:at] + b + s[at+1:]
		}
	}
	return s
}

// P11.1: Parse accepts exactly what has the form of a text; and P11.2: what it
// accepts is the text of its result.
func TestParseOfChangedTexts(t *testing.T) {
	r := rand.New(rand.NewPCG(7, 7))
	found := map[bool]int{}
	for range 30000 {
		s := sampleText
		if r.IntN(2) == 0 {
			l := strings.SplitAfter(sampleText, "\n")
			s = l[0] + pick(r, l[:len(l)-1])
		}
		s = changed(r, s)
		l, e := proof.Parse(s)
		if (e == api.OK) != refParses(s) || e != api.OK && (e != api.ErrSyntax || len(l) != 0) {
			t.Fatalf("%q: %v", s, e)
		}
		if e == api.OK {
			if again, f := proof.Format(l); f != api.OK || again != s {
				t.Fatalf("%q: then %q, %v", s, again, f)
			}
		}
		found[e == api.OK]++
	}
	if found[true] < 1000 || found[false] < 3000 {
		t.Errorf("%v cases only", found)
	}
}

// P11.1: long texts are read in a reasonable time.
func TestLargeTexts(t *testing.T) {
	begin := time.Now()
	l := []api.Deduction{{Rule: api.ByGiven, Term: atom("a", api.SortAny)}}
	for range 100 {
		l = append(l, api.Deduction{Rule: api.BySum, Args: make([]int, 320), Term: atom("a", api.SortAny)})
	}
	s, e := proof.Format(l)
	if e != api.OK || len(s) < 60000 {
		t.Errorf("%d bytes, %v", len(s), e)
	}
	if got, e := proof.Parse(s); e != api.OK || !sameSteps(got, l) {
		t.Errorf("Parse: %v", e)
	}
	for _, s := range []string{strings.Repeat("f(", 30000), "given 0: " + strings.Repeat("f(", 30000), strings.Repeat("sum ", 16000), strings.Repeat(": ", 32000), strings.Repeat("^", 65000)} {
		if l, e := proof.Parse(s); e != api.ErrSyntax || len(l) != 0 {
			t.Errorf("%q: %v", s[:10], e)
		}
	}
	if s := time.Since(begin); s > 20*time.Second {
		t.Errorf("%v", s)
	}
}
