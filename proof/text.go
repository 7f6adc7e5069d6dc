package proof

import (
	"strconv"
	"strings"

	"sealring/api"
	"sealring/term"
)

// Format returns the text of a derivation.
func Format(l []api.Deduction) (string, api.Errno) {
	if len(l) > maxSteps {
		return "", api.ErrTooLarge
	}
	var b strings.Builder
	for i := range l {
		if e := shapeError(&l[i], i); e != api.OK {
			return "", e
		}
		text, e := term.Format(l[i].Term)
		if e != api.OK {
			return "", e
		}
		writeRule(&b, &l[i])
		b.WriteString(": ")
		b.WriteString(text)
		b.WriteString("\n")
	}
	if b.Len() > api.MaxText {
		return "", api.ErrTooLarge
	}
	return b.String(), api.OK
}

// writeRule writes what stands in front of the Term of a step.
func writeRule(b *strings.Builder, d *api.Deduction) {
	s := shapes[d.Rule]
	b.WriteString(s.word)
	if d.Rule == api.ByGiven {
		b.WriteString(" ")
		b.WriteString(strconv.Itoa(d.N))
	}
	for j, a := range d.Args {
		b.WriteString(" ")
		b.WriteString(strconv.Itoa(a))
		if s.powers && j >= s.args {
			b.WriteString("^")
			b.WriteString(strconv.Itoa(d.Coeffs[j-s.args]))
		}
	}
}

// Parse returns the derivation with a text.
func Parse(s string) ([]api.Deduction, api.Errno) {
	if len(s) > api.MaxText {
		return nil, api.ErrTooLarge
	}
	lines := strings.SplitAfter(s, "\n")
	if lines[len(lines)-1] == "" {
		lines = lines[:len(lines)-1]
	}
	if len(lines) > maxSteps {
		return nil, api.ErrTooLarge
	}
	var l []api.Deduction
	for _, line := range lines {
		d, ok := parseStep(line)
		if !ok {
			return nil, api.ErrSyntax
		}
		l = append(l, d)
	}
	// Steps are read generously: a text is right if it is the one of its steps.
	if again, e := Format(l); e != api.OK || again != s {
		return nil, api.ErrSyntax
	}
	return l, api.OK
}

// parseStep reads a step from its line, or from one that is nearly right.
func parseStep(line string) (api.Deduction, bool) {
	front, text, _ := strings.Cut(line, ": ")
	t, e := term.Parse(strings.TrimSuffix(text, "\n"))
	if e != api.OK {
		return api.Deduction{}, false
	}
	words := strings.Split(front, " ")
	d := api.Deduction{Rule: ruleOf(words[0]), Term: t}
	numbers := words[1:]
	if d.Rule == api.ByGiven && len(numbers) > 0 {
		d.N = number(numbers[0])
		numbers = numbers[1:]
	}
	for _, word := range numbers {
		index, power, hasPower := strings.Cut(word, "^")
		d.Args = append(d.Args, number(index))
		if hasPower {
			d.Coeffs = append(d.Coeffs, number(power))
		}
	}
	return d, true
}

// number reads a number. Of any other word it makes one whose digits are not
// this word.
func number(s string) int {
	n, _ := strconv.Atoi(s)
	return n
}

// ruleOf returns the rule with a word, or 0.
func ruleOf(word string) int {
	for rule := range shapes {
		if shapes[rule].word == word {
			return rule
		}
	}
	return 0
}
