package subst

import (
	"strings"

	"sealring/api"
	"sealring/term"
)

// Between the variable and the term of a binding, and between two bindings.
const (
	equals = " = "
	comma  = ", "
)

// Rename returns the term in which the suffix is put behind the names of all
// variables.
func Rename(t api.Term, suffix string) (api.Term, api.Errno) {
	if e := term.Valid(t); e != api.OK {
		return api.Term{}, e
	}
	for i := range len(suffix) {
		if !isNameByte(suffix[i]) {
			return api.Term{}, api.ErrSyntax
		}
	}
	u := copyOf(t)
	if !rename(&u, suffix) {
		return api.Term{}, api.ErrTooLarge
	}
	return u, api.OK
}

// isNameByte reports whether a name may have b behind its first letter.
func isNameByte(b byte) bool {
	return 'A' <= b && b <= 'Z' || 'a' <= b && b <= 'z' || '0' <= b && b <= '9' || b == '_' || b == '#'
}

// rename renames the variables of t, unless a name would be too long.
func rename(t *api.Term, suffix string) bool {
	if t.Kind == api.TermVar {
		if len(t.Name)+len(suffix) > api.MaxName {
			return false
		}
		t.Name += suffix
	}
	for i := range t.Kids {
		if !rename(&t.Kids[i], suffix) {
			return false
		}
	}
	return true
}

// Format returns the text of a valid substitution.
func Format(s []api.Binding) (string, api.Errno) {
	if e := Valid(s); e != api.OK {
		return "", e
	}
	var b strings.Builder
	b.WriteString("{")
	for i := range s {
		if i > 0 {
			b.WriteString(comma)
		}
		writeTerm(&b, s[i].Var)
		b.WriteString(equals)
		writeTerm(&b, s[i].Term)
	}
	b.WriteString("}")
	return b.String(), api.OK
}

// writeTerm writes the text of a valid term.
func writeTerm(b *strings.Builder, t api.Term) {
	text, _ := term.Format(t)
	b.WriteString(text)
}

// Parse returns the valid substitution with the text s.
func Parse(s string) ([]api.Binding, api.Errno) {
	if len(s) < 2 || s[0] != '{' || s[len(s)-1] != '}' {
		return nil, api.ErrSyntax
	}
	parts := pieces(s[1 : len(s)-1])
	// A piece without its sign counts more than a wrong term before it.
	for _, p := range parts {
		if !strings.Contains(p, equals) {
			return nil, api.ErrSyntax
		}
	}
	var l []api.Binding
	for _, p := range parts {
		b, e := parseBinding(p)
		if e != api.OK {
			return nil, e
		}
		l = append(l, b)
	}
	if e := Valid(l); e != api.OK {
		return nil, e
	}
	return l, api.OK
}

// pieces divides s at each comma that is followed by a space, if there are as
// many ( as ) before it. There is no piece of nothing.
func pieces(s string) []string {
	if s == "" {
		return nil
	}
	var l []string
	start, open := 0, 0
	for i := range len(s) {
		switch {
		case s[i] == '(':
			open++
		case s[i] == ')':
			open--
		case open == 0 && strings.HasPrefix(s[i:], comma):
			l = append(l, s[start:i])
			start = i + len(comma)
		}
	}
	return append(l, s[start:])
}

// parseBinding reads what stands in front of the first sign of a piece, and
// behind it.
func parseBinding(piece string) (api.Binding, api.Errno) {
	left, right, _ := strings.Cut(piece, equals)
	x, e := term.Parse(left)
	if e != api.OK {
		return api.Binding{}, e
	}
	t, e := term.Parse(right)
	if e != api.OK {
		return api.Binding{}, e
	}
	return api.Binding{Var: x, Term: t}, api.OK
}
