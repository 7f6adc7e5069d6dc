package term_test

import (
	"math/rand/v2"
	"strings"
	"testing"

	"sealring/api"
	"sealring/term"
)

// P1.1: the texts of terms.
func TestTexts(t *testing.T) {
	any := api.SortAny
	for s, x := range map[string]api.Term{
		"?x":                      variable("x", any),
		"?x:agent":                variable("x", api.SortAgent),
		"?x:nonce":                variable("x", api.SortNonce),
		"?x:key":                  variable("x", api.SortKey),
		"?x:data":                 variable("x", api.SortData),
		"?x:tag":                  variable("x", api.SortTag),
		"a:any":                   atom("a", any),
		"a:agent":                 atom("a", api.SortAgent),
		"a:nonce":                 atom("a", api.SortNonce),
		"a:key":                   atom("a", api.SortKey),
		"a:data":                  atom("a", api.SortData),
		"a:tag":                   atom("a", api.SortTag),
		"any:any":                 atom("any", any),
		"A_1#2:any":               atom("A_1#2", any),
		"f()":                     app("f"),
		"f(g())":                  app("f", app("g")),
		"f(?f, f:any, f(?f:key))": app("f", variable("f", any), atom("f", any), app("f", variable("f", api.SortKey))),
		"f(g(a:any), b:any)":      app("f", app("g", atom("a", any)), atom("b", any)),
		strings.Repeat("n", api.MaxName) + "(?x, f(), ?x)":        app(strings.Repeat("n", api.MaxName), variable("x", any), app("f"), variable("x", any)),
		strings.Repeat("n", api.MaxName) + ":tag":                 atom(strings.Repeat("n", api.MaxName), api.SortTag),
		"?" + strings.Repeat("N", api.MaxName) + ":key":           variable(strings.Repeat("N", api.MaxName), api.SortKey),
		"f(" + strings.Repeat("a:any, ", 7) + "a:any)":            app("f", times(8, atom("a", any))...),
		strings.Repeat("g(", 40) + strings.Repeat(")", 40):        tower(40, app("g")),
		strings.Repeat("g(", 39) + "?x" + strings.Repeat(")", 39): tower(40, variable("x", any)),
	} {
		if text, e := term.Format(x); text != s || e != api.OK {
			t.Errorf("Format: %q, %v, not %q", text, e, s)
		}
		if y, e := term.Parse(s); e != api.OK || !same(x, y) {
			t.Errorf("Parse(%q): %s, %v", s, show(y), e)
		}
	}
}

// P1.1: Format has the errors of Valid, and no text with them.
func TestFormatErrors(t *testing.T) {
	for what, c := range invalid() {
		if s, e := term.Format(c.t); s != "" || e != c.want {
			t.Errorf("%s: %q, %v, not %v", what, s, e, c.want)
		}
	}
}

func checkParseError(t *testing.T, s string, want api.Errno) {
	t.Helper()
	if x, e := term.Parse(s); e != want || !same(x, api.Term{}) {
		t.Errorf("Parse(%.60q): %s, %v, not %v", s, show(x), e, want)
	}
}

// P1.1: what is no text of a term is ErrSyntax.
func TestParseSyntax(t *testing.T) {
	long := strings.Repeat("n", api.MaxName+1)
	for _, s := range []string{
		"", " ", "a", "?", ":", "?:key", "(", ")", "()", ",", "a:", "a:Any", "a:anyx", "a:any ", " a:any", "a:any\n", "a:word",
		"a :any", "a: any", "?x:", "?x:any", "?x:word", "?x ", "? x", "??x", "?f()", "?f(a:any)", "a:any()", "a:0",
		"1:any", "_a:any", "#a:any", "a-b:any", "\u00e4:any", "a\u00e4:any", "a\x00:any", "\xff:any",
		long + ":any", "?" + long, long + "()", "f(" + long + ":any)",
		"f", "f(", "f)", "f(a:any", "f(a:any,", "f(a:any, ", "f(a:any, )", "f(, a:any)", "f(,)", "f( )", "f(a:any )", "f( a:any)",
		"f (a:any)", "f(a:any,b:any)", "f(a:any,  b:any)", "f(a:any ,b:any)", "f(a:any b:any)", "f(a:any;b:any)", "f(a:any\tb:any)",
		"f())", "f()a:any", "f()f()", "f(a:any))", "f((a:any))", "f(g(a:any)", "f(a)", "f(?x:any)", "a:any, b:any", "a:any,", "f(), ", "f(g()g())",
	} {
		checkParseError(t, s, api.ErrSyntax)
	}
}

// P1.1: what would be the text of a term is ErrTooLarge beyond the limits.
func TestParseTooLarge(t *testing.T) {
	a := atom("a", api.SortAny)
	tooLarge := []string{
		"f(" + strings.Repeat("a:any, ", 8) + "a:any)",
		"g(f(" + strings.Repeat("?x, ", 8) + "?x), b:any)",
		strings.Repeat("g(", 40) + "a:any" + strings.Repeat(")", 40),
		strings.Repeat("g(", 41) + strings.Repeat(")", 41),
		"f(" + strings.Repeat("g(", 39) + "a:any" + strings.Repeat(")", 39) + ", b:any)",
		write(wide(401)),
		write(wide(585)),
	}
	for _, s := range tooLarge {
		checkParseError(t, s, api.ErrTooLarge)
		checkParseError(t, s+")", api.ErrSyntax)
		checkParseError(t, s[:len(s)-1], api.ErrSyntax)
		checkParseError(t, strings.Replace(s, "(", "(?x:any, ", 1), api.ErrSyntax)
	}
	if x, e := term.Parse(write(wide(400))); e != api.OK || !same(x, wide(400)) {
		t.Errorf("400 nodes: %v", e)
	}
	if x, e := term.Parse(write(tower(40, a))); e != api.OK || !same(x, tower(40, a)) {
		t.Errorf("40 levels: %v", e)
	}
}

// P1.1: Parse ends with the right error however deep and wide a text is.
func TestParseHugeTexts(t *testing.T) {
	n := 200_000
	open, end := strings.Repeat("g(", n), strings.Repeat(")", n)
	checkParseError(t, open+end, api.ErrTooLarge)
	checkParseError(t, open+"a:any"+end, api.ErrTooLarge)
	checkParseError(t, open, api.ErrSyntax)
	checkParseError(t, open+"a"+end, api.ErrSyntax)
	checkParseError(t, "f("+strings.Repeat("a:any, ", n)+"a:any)", api.ErrTooLarge)
	checkParseError(t, "f("+strings.Repeat("a:any, ", n)+")", api.ErrSyntax)
	checkParseError(t, strings.Repeat("a", n)+":any", api.ErrSyntax)
}

// write writes the text of a term, whatever its size is.
func write(t api.Term) string {
	sorts := []string{":any", ":agent", ":nonce", ":key", ":data", ":tag"}
	switch {
	case t.Kind == api.TermVar && t.Sort == api.SortAny:
		return "?" + t.Name
	case t.Kind == api.TermVar:
		return "?" + t.Name + sorts[t.Sort]
	case t.Kind == api.TermAtom:
		return t.Name + sorts[t.Sort]
	}
	var kids []string
	for _, kid := range t.Kids {
		kids = append(kids, write(kid))
	}
	return t.Name + "(" + strings.Join(kids, ", ") + ")"
}

// P1.2: Parse leads from the text of a term to the term.
func TestParseReadsTexts(t *testing.T) {
	r := rand.New(rand.NewPCG(3, 4))
	for range 2000 {
		x := random(r, 6)
		s, e := term.Format(x)
		if term.Valid(x) != e || e == api.OK && s != write(x) {
			t.Fatalf("%s: %q, %v", show(x), s, e)
		}
		if e != api.OK {
			continue
		}
		if y, e := term.Parse(s); e != api.OK || !same(x, y) {
			t.Fatalf("%q: %s, %v", s, show(y), e)
		}
	}
}

// checkAccepted checks that a text, if it is accepted, is that of its result.
func checkAccepted(t *testing.T, s string) bool {
	t.Helper()
	x, e := term.Parse(s)
	if e != api.OK {
		if e != api.ErrSyntax && e != api.ErrTooLarge || !same(x, api.Term{}) {
			t.Fatalf("Parse(%q): %s, %v", s, show(x), e)
		}
		return false
	}
	if again, f := term.Format(x); again != s || f != api.OK || term.Valid(x) != api.OK {
		t.Fatalf("Parse(%q): the result has the text %q, %v", s, again, f)
	}
	return true
}

// P1.2: a text that Parse accepts is that of its result; here for all texts
// of at most five of the words of which texts consist, and of some others.
func TestAcceptedTexts(t *testing.T) {
	words := []string{"?", "a", ":", "any", "key", "(", ")", ", ", ",", " ", "#", "1"}
	texts, accepted := []string{""}, 0
	for range 5 {
		var longer []string
		for _, s := range texts {
			for _, w := range words {
				longer = append(longer, s+w)
			}
		}
		for _, s := range longer {
			if checkAccepted(t, s) {
				accepted++
			}
		}
		texts = longer
	}
	if accepted == 0 {
		t.Error("no text is accepted")
	}
}

// P1.2: the same for texts in which one byte was changed, left out or put in.
func TestAcceptedChanges(t *testing.T) {
	s := "f(g(?x:key, ab#1:any), h(), ?y)"
	for i := range len(s) {
		checkAccepted(t, s[:i])
		checkAccepted(t, s[i:])
		checkAccepted(t, s[:i]+s[i+1:])
		for b := range 256 {
			checkAccepted(t, s[:i]+string([]byte{byte(b)})+s[i:])
			checkAccepted(t, s[:i]+string([]byte{byte(b)})+s[i+1:])
		}
	}
}

// P1.1: equal arguments give equal results that share no memory, and Format
// leaves its argument as it is.
func TestTextsShareNothing(t *testing.T) {
	s := "f(g(a:any, h(?x)), k(g(a:any, h(?x))))"
	x, y := must(t, s), must(t, s)
	apart(t, "Parse", x, y)
	before := show(x)
	if _, e := term.Format(x); e != api.OK || show(x) != before || !same(x, y) {
		t.Errorf("%s, %v", show(x), e)
	}
}
