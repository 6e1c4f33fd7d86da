package retrace_test

import (
	"math/rand/v2"
	"regexp"
	"strings"
	"testing"

	"retrace/api"
	"retrace/retrace"
)

// part: an item, as it is written and as the bytes that it has.
type part struct {
	text string
	has  string
	not  bool
	many bool
}

func (p part) hasByte(c byte) bool { return strings.IndexByte(p.has, c) >= 0 != p.not }

// whole: an expression, as its parts.
type whole struct {
	start, end bool
	parts      []part
}

func (w whole) text() string {
	s := ""
	if w.start {
		s += "^"
	}
	for _, p := range w.parts {
		s += p.text
		if p.many {
			s += "*"
		}
	}
	if w.end {
		s += "$"
	}
	return s
}

// matches: whether the bytes of a text from i up to j are the parts, as P9 says it: by trying every way.
func (w whole) matches(s string, i, j int) bool {
	return (!w.start || i == 0) && (!w.end || j == len(s)) && areParts(w.parts, s[i:j])
}

func areParts(l []part, s string) bool {
	if len(l) == 0 {
		return s == ""
	}
	p := l[0]
	if p.many && areParts(l[1:], s) {
		return true
	}
	if s == "" || !p.hasByte(s[0]) {
		return false
	}
	if p.many {
		return areParts(l, s[1:])
	}
	return areParts(l[1:], s[1:])
}

func (w whole) find(s string, at int) (int, int) {
	for i := at; i <= len(s); i++ {
		for j := len(s); j >= i; j-- {
			if w.matches(s, i, j) {
				return i, j
			}
		}
	}
	return -1, -1
}

// partChoice: parts that share some bytes with one another.
func partChoice() []part {
	l := []part{
		{text: "a", has: "a"}, {text: "b", has: "b"}, {text: ".", not: true}, {text: "[^a]", has: "a", not: true}, {text: "\\n", has: "\n"},
		{text: "[a\\n]", has: "a\n"}, {text: "[a-c]", has: "abc"}, {text: "[^\\na-b]", has: "\nab", not: true},
	}
	for _, p := range l {
		p.many = true
		l = append(l, p)
	}
	return l
}

// words: every text of up to most of these letters, the shorter ones first.
func words(letters string, most int) []string {
	all := []string{""}
	for from := 0; len(all[from]) < most; from++ {
		for i := range len(letters) {
			all = append(all, all[from]+letters[i:i+1])
		}
	}
	return all
}

func wantFoundAsModelled(t *testing.T, w whole, s string) {
	t.Helper()
	for at := 0; at <= len(s); at++ {
		i, j := w.find(s, at)
		wantFind(t, w.text(), s, at, i, j, api.OK)
	}
}

// Every expression of up to three parts of a choice, in every short text.
func TestFindOfAllShortExpressions(t *testing.T) {
	choice := partChoice()
	lists := [][]part{nil}
	for from := 0; len(lists[from]) < 3; from++ {
		for _, p := range choice {
			if len(lists[from]) < 2 || p.text == "a" || p.text == "[^a]" {
				lists = append(lists, append(append([]part(nil), lists[from]...), p))
			}
		}
	}
	texts := words("ab\n", 3)
	for _, l := range lists {
		for k := range 4 {
			w := whole{start: k%2 == 1, end: k/2 == 1, parts: l}
			for _, s := range texts {
				if w.text() != "" {
					wantFoundAsModelled(t, w, s)
				}
			}
		}
	}
}

func TestFindOfSomeLongExpressions(t *testing.T) {
	rnd := rand.New(rand.NewPCG(9, 10))
	choice := partChoice()
	for range 3000 {
		w := whole{start: rnd.IntN(4) == 0, end: rnd.IntN(4) == 0}
		for range 1 + rnd.IntN(7) {
			w.parts = append(w.parts, choice[rnd.IntN(len(choice))])
		}
		s := ""
		for range rnd.IntN(12) {
			s += string("aaabbc\n"[rnd.IntN(7)])
		}
		wantFoundAsModelled(t, w, s)
	}
}

// expressionForm: the form of expressions over a few letters, as a regular expression. Ranges are listed one by one, so that their order is part of the form.
func expressionForm(letters string) string {
	var marks, ranges, first, firstRanges []string
	for _, low := range marksOver(letters) {
		plain := regexp.QuoteMeta(low.text)
		marks = append(marks, plain)
		if low.text != "^" {
			first = append(first, plain)
		}
		for _, high := range marksOver(letters) {
			if low.has <= high.has {
				both := plain + "-" + regexp.QuoteMeta(high.text)
				ranges = append(ranges, both)
				if low.text != "^" {
					firstRanges = append(firstRanges, both)
				}
			}
		}
	}
	member := "(?:" + strings.Join(append(ranges, marks...), "|") + ")"
	firstMember := "(?:" + strings.Join(append(firstRanges, first...), "|") + ")"
	set := `\[(?:\^` + member + `|` + firstMember + `)` + member + `*\]`
	item := `(?:[^\n\\/.*\[\]^$]|\\[^\n]|\.|` + set + `)\*?`
	return `(?:\^(?:` + item + `)*\$?|(?:` + item + `)+\$?|\$)`
}

// marksOver: the marks of a member that can be written with a few letters.
func marksOver(letters string) []part {
	var l []part
	for i := range len(letters) {
		c := letters[i : i+1]
		if !strings.Contains("\n\\/]-", c) {
			l = append(l, part{text: c, has: c})
		}
		if c == "n" {
			l = append(l, part{text: "\\n", has: "\n"})
		} else if c != "\n" {
			l = append(l, part{text: "\\" + c, has: c})
		}
	}
	return l
}

// Every short text over letters that mean something is an expression just if it has the form of one.
func TestFindReadsExpressionsOfTheFormAlone(t *testing.T) {
	for _, c := range []struct {
		letters, ahead, behind string
		most                   int
	}{
		{"a^$*\\[].-/n\n", "", "", 5},
		{"ab-^\\]n", "[", "]", 5},
		{"ab-^\\]n", "[^", "]*", 4},
		{"a-]\n/[", "a[", "", 5},
		{"a^$*\\.", "", "", 6},
	} {
		form := regexp.MustCompile("^" + expressionForm("abn^$*\\[].-/\n") + "\\z")
		right := 0
		for _, s := range words(c.letters, c.most) {
			re := c.ahead + s + c.behind
			_, _, e := retrace.Find(re, "", 0)
			if (e == api.OK) != form.MatchString(re) || e != api.OK && e != api.ErrScript {
				t.Errorf("P9: Find(%q, ..) = %d, and the form fits: %t", re, e, form.MatchString(re))
			}
			if e == api.OK {
				right++
			}
		}
		if right == 0 {
			t.Errorf("of the texts over %q none is an expression", c.letters)
		}
	}
}
