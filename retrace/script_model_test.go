package retrace_test

import (
	"math/rand/v2"
	"regexp"
	"slices"
	"strings"
	"testing"

	"retrace/api"
	"retrace/retrace"
)

// scriptModel reads scripts over a few letters: what a line may be is a regular expression; the rest of P10 is counted.
type scriptModel struct {
	line     *regexp.Regexp
	ahead    *regexp.Regexp
	exchange *regexp.Regexp
	byte     *regexp.Regexp
}

func scriptModelOver(letters string) scriptModel {
	expression := expressionForm(letters)
	address := `(?:[1-9][0-9]{0,3}|\$|/` + expression + `/)`
	addresses := `(?:` + address + `(?:,` + address + `)?!?)?`
	one := `(?:\\[^\n]|[^\n\\/])`
	forms := []string{
		addresses + `[pdDPnNhHgGxq={]`, `}`, `:[a-z]`, addresses + `[bt][a-z]?`, addresses + `[aic][^\n]*`,
		addresses + `s/` + expression + `/` + one + `*/[1-9]?g?p?`, addresses + `y/` + one + `+/` + one + `+/`,
	}
	return scriptModel{
		line:     regexp.MustCompile(`^(?:` + strings.Join(forms, "|") + `)\z`),
		ahead:    regexp.MustCompile(`^` + addresses),
		exchange: regexp.MustCompile(`^` + addresses + `y/(` + one + `+)/(` + one + `+)/\z`),
		byte:     regexp.MustCompile(one),
	}
}

// count: how many commands a script has; -1, if it is none.
func (m scriptModel) count(script string) int {
	n := 0
	brackets := ""
	labels, asked := "", ""
	for _, line := range strings.Split(script, "\n") {
		if line == "" {
			continue
		}
		if !m.line.MatchString(line) || !m.rightExchange(line) {
			return -1
		}
		n++
		name, behind := m.nameOf(line)
		switch name {
		case "{", "}":
			brackets += name
		case ":":
			labels += behind
		case "b", "t":
			asked += behind
		}
	}
	for strings.Contains(brackets, "{}") {
		brackets = strings.ReplaceAll(brackets, "{}", "")
	}
	if brackets != "" || hasTwice(labels) || strings.Trim(asked, labels) != "" {
		return -1
	}
	return n
}

func (m scriptModel) rightExchange(line string) bool {
	if name, _ := m.nameOf(line); name != "y" {
		return true
	}
	rows := m.exchange.FindStringSubmatch(line)
	from, to := m.row(rows[1]), m.row(rows[2])
	return len(from) == len(to) && !hasTwice(from)
}

// row: the bytes of a row, each as one.
func (m scriptModel) row(s string) string {
	return m.byte.ReplaceAllStringFunc(s, func(b string) string {
		if b == "\\n" {
			return "\n"
		}
		return strings.TrimPrefix(b[:1], "\\") + b[1:]
	})
}

func hasTwice(s string) bool {
	l := []byte(s)
	slices.Sort(l)
	return len(slices.Compact(l)) != len(s)
}

// nameOf: the name of a right line, and what stands behind it.
func (m scriptModel) nameOf(line string) (string, string) {
	ahead := m.ahead.FindString(line)
	return line[len(ahead) : len(ahead)+1], line[len(ahead)+1:]
}

func wantCheckAsModelled(t *testing.T, m scriptModel, script string) bool {
	t.Helper()
	n := m.count(script)
	if n < 0 {
		wantCheck(t, script, 0, api.ErrScript)
		return false
	}
	wantCheck(t, script, n, api.OK)
	return true
}

// Every short text over letters that mean something is a script just if the model counts commands in it.
func TestCheckOfAllShortTexts(t *testing.T) {
	m := scriptModelOver("abgnp1&^$*\\[].-/\n")
	for _, c := range []struct {
		letters, ahead, behind string
		most                   int
	}{
		{"p10,!$/a\n", "", "", 4},
		{"1,!$ap/", "", "p", 5},
		{"{}:ab\n1", "", "", 5},
		{":tb\na", "", "", 6},
		{"a/\\&gn", "s", "", 5},
		{"ab/\\n", "y", "", 5},
		{"a/\\&n\n[]", "s/", "", 4},
		{"a/\\&n\n", "s/a/", "/", 4},
		{"1290gp /", "s/a/b/", "", 4},
		{"ab/\\n\n", "y/", "/", 5},
		{"^$*a/[]", "/", "/p", 4},
	} {
		right := 0
		for _, s := range words(c.letters, c.most) {
			if wantCheckAsModelled(t, m, c.ahead+s+c.behind) {
				right++
			}
		}
		if right == 0 {
			t.Errorf("of the texts over %q none is a script", c.letters)
		}
	}
}

// Every script of up to five lines of a choice: brackets and labels, one within the other.
func TestCheckOfAllShortScripts(t *testing.T) {
	m := scriptModelOver("ab")
	choice := []string{"{", "}", ":a", ":b", "1ba", "tb", "b", "", "a}"}
	all := [][]string{nil}
	for from := 0; len(all[from]) < 5; from++ {
		for _, line := range choice {
			all = append(all, append(slices.Clone(all[from]), line))
		}
	}
	for _, lines := range all {
		wantCheckAsModelled(t, m, strings.Join(lines, "\n"))
	}
}

// A right script, with one byte changed, taken out or put in.
func TestCheckOfNearlyRightScripts(t *testing.T) {
	letters := "abgnp1&^$*\\[].-/\n{}:!,0stby=q"
	m := scriptModelOver(letters)
	script := "1,/a[^b-n]*$/!{\n:a\ns/^b*\\/[a-b]/&\\n/2gp\nta\n}\n$y/ab\\n/bap/\n/\\\\/aabg\n12b\n="
	wantCheckAsModelled(t, m, script)
	for i := range len(script) {
		wantCheckAsModelled(t, m, script[:i]+script[i+1:])
		for k := range len(letters) {
			wantCheckAsModelled(t, m, script[:i]+letters[k:k+1]+script[i+1:])
			wantCheckAsModelled(t, m, script[:i]+letters[k:k+1]+script[i:])
		}
	}
	rnd := rand.New(rand.NewPCG(10, 9))
	for range 5000 {
		s := []byte(script)
		for range 1 + rnd.IntN(3) {
			i, k := rnd.IntN(len(s)), rnd.IntN(len(letters))
			s[i] = letters[k]
		}
		wantCheckAsModelled(t, m, string(s))
	}
}

// Bytes of all kinds: no call may panic, nor answer something beside an error.
func TestFindAndCheckAnswerOddTexts(t *testing.T) {
	rnd := rand.New(rand.NewPCG(1, 2))
	odd := append(oddTexts(), strings.Repeat("[", 400), strings.Repeat("\\", 400), strings.Repeat("\\", 399), strings.Repeat("[a-", 133), strings.Repeat("s/", 200), strings.Repeat("1,", 200), "s/a/b/\x00", "\xff*\xfe$")
	for range 2000 {
		s := make([]byte, rnd.IntN(40))
		for i := range s {
			s[i] = "ab[]^$*.\\/-n\n{}:!,19sty\x00\xff\x80"[rnd.IntN(26)]
		}
		odd = append(odd, string(s))
	}
	for _, s := range odd {
		n, e := retrace.Check(s)
		if e != api.OK && n != 0 || n < 0 || (e == api.ErrLong) != (len(s) > 400) {
			t.Errorf("P1: Check(%q) = %d, %d", clip(s), n, e)
		}
		for _, at := range []int{-1, 0, 1, len(s), len(s) + 1} {
			i, j, e := retrace.Find(s, s, at)
			if e != api.OK && (i != 0 || j != 0) || e == api.OK && i >= 0 && (i < at || j < i || j > len(s)) {
				t.Errorf("P1: Find(%q, itself, %d) = %d, %d, %d", clip(s), at, i, j, e)
			}
		}
	}
}

// The answers are the same again, whatever was asked between.
func TestFindAndCheckRememberNothing(t *testing.T) {
	for range 3 {
		wantFind(t, "[^a]*b", "aab", 0, 2, 3, api.OK)
		wantCheck(t, ":a\n{\nba\n}", 4, api.OK)
		wantFind(t, "[^a*b", "aab", 0, 0, 0, api.ErrScript)
		wantCheck(t, "{\nba", 0, api.ErrScript)
		wantCheck(t, "ba", 0, api.ErrScript)
		wantCheck(t, "p", 1, api.OK)
		wantFind(t, "b", "aab", 3, -1, -1, api.OK)
		wantFind(t, "^aa$", "aa", 0, 0, 2, api.OK)
	}
}
