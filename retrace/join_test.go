package retrace_test

import (
	"math/rand/v2"
	"strings"
	"testing"

	"retrace/api"
	"retrace/retrace"
)

func TestJoinOfTheExamples(t *testing.T) {
	wantJoin(t, journalOf(list(keep(1), restore("b"), keep(1)), "abc", "ac"), journalOf(list(drop(1), restore("a"), keep(1)), "ac", "xc"),
		journalOf(list(drop(1), restore("ab"), keep(1)), "abc", "xc"), api.OK)
	wantJoin(t, journalOf(list(restore("a"), keep(1), drop(1)), "ab", "bx"), journalOf(list(keep(1), restore("x")), "bx", "b"),
		journalOf(list(restore("a"), keep(1)), "ab", "b"), api.OK)
}

func TestJoinOfLists(t *testing.T) {
	for _, c := range []struct {
		name       string
		a, b, c    string
		l, m, want []api.Record
	}{
		{"empty texts", "", "", "", nil, nil, nil},
		{"from an empty text", "", "", "xy", nil, list(drop(2)), list(drop(2))},
		{"to an empty text", "ab", "", "", list(restore("ab")), nil, list(restore("ab"))},
		{"over an empty text", "ab", "", "xy", list(restore("ab")), list(drop(2)), list(drop(2), restore("ab"))},
		{"between empty texts", "", "xy", "", list(drop(2)), list(restore("xy")), nil},
		{"kept twice", "abc", "abc", "abc", list(keep(3)), list(keep(3)), list(keep(3))},
		{"kept in other pieces", "abcd", "abcd", "abcd", list(keep(1), keep(3)), list(keep(2), keep(1), keep(1)), list(keep(4))},
		{"kept, then restored", "abcd", "abcd", "ad", list(keep(4)), list(keep(1), restore("bc"), keep(1)), list(keep(1), restore("bc"), keep(1))},
		{"kept in pieces, then restored", "abcd", "abcd", "", list(keep(1), keep(2), keep(1)), list(restore("abcd")), list(restore("abcd"))},
		{"kept, then restored in pieces", "abcd", "abcd", "", list(keep(4)), list(restore("a"), restore("bc"), restore("d")), list(restore("abcd"))},
		{"dropped, then kept", "ad", "abcd", "abcd", list(keep(1), drop(2), keep(1)), list(keep(4)), list(keep(1), drop(2), keep(1))},
		{"dropped in pieces, then kept", "", "abcd", "abcd", list(drop(1), drop(3)), list(keep(2), keep(2)), list(drop(4))},
		{"came and went", "ad", "abcd", "ad", list(keep(1), drop(2), keep(1)), list(keep(1), restore("bc"), keep(1)), list(keep(2))},
		{"came, and half of it went", "ad", "abcd", "acd", list(keep(1), drop(2), keep(1)), list(keep(1), restore("b"), keep(2)), list(keep(1), drop(1), keep(1))},
		{"came, and went with more", "ad", "abcd", "a", list(keep(1), drop(2), keep(1)), list(keep(1), restore("bcd")), list(keep(1), restore("d"))},
		{"went and came", "abc", "ac", "abc", list(keep(1), restore("b"), keep(1)), list(keep(1), drop(1), keep(1)), list(keep(1), drop(1), restore("b"), keep(1))},
		{"restored by both, by turns", "abcd", "bd", "", list(restore("a"), keep(1), restore("c"), keep(1)), list(restore("bd")), list(restore("abcd"))},
		{"dropped by both, by turns", "", "bd", "abcd", list(drop(2)), list(drop(1), keep(1), drop(1), keep(1)), list(drop(4))},
		{"dropped behind what is restored", "ab", "b", "bx", list(restore("a"), keep(1)), list(keep(1), drop(1)), list(restore("a"), keep(1), drop(1))},
		{"nothing is kept by both", "ab", "bx", "xy", list(restore("a"), keep(1), drop(1)), list(restore("b"), keep(1), drop(1)), list(drop(2), restore("ab"))},
		{"lists that are not short", "abc", "axc", "ayc", list(keep(1), restore("b"), drop(1), keep(1)), list(keep(1), restore("x"), drop(1), keep(1)), list(keep(1), drop(1), restore("b"), keep(1))},
		{"another place of the same byte", "aa", "aa", "aa", list(restore("a"), keep(1), drop(1)), list(drop(1), keep(1), restore("a")), list(drop(1), restore("a"), keep(1))},
		{"places that part", "aaa", "aaa", "aaa", list(restore("a"), keep(2), drop(1)), list(restore("a"), keep(2), drop(1)), list(restore("aa"), keep(1), drop(2))},
		{"bytes of all kinds", "\x00\xff\n", "\xff\n", "\n\x80", list(restore("\x00"), keep(2)), list(restore("\xff"), keep(1), drop(1)), list(restore("\x00\xff"), keep(1), drop(1))},
	} {
		t.Run(c.name, func(t *testing.T) {
			wantWrite(t, c.l, c.a, c.b, journalOf(c.l, c.a, c.b), api.OK)
			wantWrite(t, c.m, c.b, c.c, journalOf(c.m, c.b, c.c), api.OK)
			want := journalOf(c.want, c.a, c.c)
			wantJoin(t, journalOf(c.l, c.a, c.b), journalOf(c.m, c.b, c.c), want, api.OK)
			wantUndo(t, c.c, want, c.a, api.OK)
		})
	}
}

// Every two lists of up to three records; their restored bytes tell whose they are, and of which place.
func TestJoinOfAllShortLists(t *testing.T) {
	all := shapes(3)
	for _, l := range all {
		l = filled(l, 'a')
		j := textless(l, 1, 515)
		from := modelOf(l)
		for _, m := range all {
			m = filled(m, 'A')
			to := modelOf(m)
			if from.lenB != len(to.with) {
				wantJoin(t, j, textless(m, 515, 65535), "", api.ErrMatch)
				continue
			}
			want := textless(from.joined(to).short(), 1, 65535)
			wantJoin(t, j, textless(m, 515, 65535), want, api.OK)
			wantShort(t, want)
		}
	}
}

// Longer lists, over three journals: it is the same whichever two are joined first.
func TestJoinOfLongLists(t *testing.T) {
	rnd := rand.New(rand.NewPCG(7, 8))
	for _, n := range []int{1, 10, 100, 300, 1000, 4095, api.MaxData} {
		for range 10 {
			_, a := someWay(rnd, "", n)
			l, b := someWay(rnd, a, n-rnd.IntN(2))
			m, c := someWay(rnd, b, rnd.IntN(n+1))
			o, d := someWay(rnd, c, n)
			j, k, i := journalOf(l, a, b), journalOf(m, b, c), journalOf(o, c, d)
			jk := journalOf(modelOf(l).joined(modelOf(m)).short(), a, c)
			ki := journalOf(modelOf(m).joined(modelOf(o)).short(), b, d)
			all := journalOf(modelOf(l).joined(modelOf(m)).joined(modelOf(o)).short(), a, d)
			wantJoin(t, j, k, jk, api.OK)
			wantJoin(t, k, i, ki, api.OK)
			wantJoin(t, jk, i, all, api.OK)
			wantJoin(t, j, ki, all, api.OK)
			wantUndo(t, c, jk, a, api.OK)
			wantUndo(t, d, all, a, api.OK)
		}
	}
}

// With a journal that keeps all, on either side, a journal becomes its short form.
func TestJoinWithAllKept(t *testing.T) {
	for _, w := range ways() {
		j := journalOf(w.l, w.a, w.b)
		short := journalOf(modelOf(w.l).short(), w.a, w.b)
		wantJoin(t, allKept(w.a), j, short, api.OK)
		wantJoin(t, j, allKept(w.b), short, api.OK)
	}
}

func allKept(s string) string {
	if s == "" {
		return journalOf(nil, "", "")
	}
	return journalOf(list(keep(len(s))), s, s)
}

func TestJoinAtMaxData(t *testing.T) {
	z := strings.Repeat("z", api.MaxData)
	toFull := append(repeated(restore("z"), 4096), repeated(drop(1), 4096)...)
	var toZ []api.Record
	for _, c := range full {
		toZ = append(toZ, drop(1), restore(string(c)))
	}
	for _, c := range []struct {
		name       string
		a, b, c    string
		l, m, want []api.Record
	}{
		{"all changed, and changed back", z, full, z, toFull, toZ, list(drop(4096), restore(z))},
		{"all changed twice", full, z, full, toZ, toFull, list(drop(4096), restore(full))},
		{"all kept", full, full, full, repeated(keep(1), 4096), repeated(keep(2), 2048), list(keep(4096))},
		{"all came and went", "", full, "", repeated(drop(1), 4096), list(restore(full)), nil},
		{"all went and came", full, "", full, list(restore(full)), repeated(drop(1), 4096), list(drop(4096), restore(full))},
	} {
		t.Run(c.name, func(t *testing.T) {
			wantJoin(t, journalOf(c.l, c.a, c.b), journalOf(c.m, c.b, c.c), journalOf(c.want, c.a, c.c), api.OK)
		})
	}
}

func TestJoinRefusesLongJournals(t *testing.T) {
	right := allKept("a")
	edge := strings.Repeat("a", api.MaxJournal)
	long := strings.Repeat("a", api.MaxJournal+1)
	// ErrLong is named ahead of ErrJournal.
	for _, s := range []string{right, allKept("b"), "", "no journal", edge, long} {
		wantJoin(t, long, s, "", api.ErrLong)
		wantJoin(t, s, long, "", api.ErrLong)
	}
	for _, s := range []string{right, allKept("b"), "", "no journal", edge} {
		wantJoin(t, edge, s, "", api.ErrJournal)
		wantJoin(t, s, edge, "", api.ErrJournal)
	}
}

func TestJoinRefusesWhatIsNoJournal(t *testing.T) {
	j := journalOf(list(keep(1), drop(1)), "a", "ab")
	for _, s := range []string{"", "a", "RT", sealed(""), sealed("RT"), j[1:], j[:len(j)-1], j + "\x00", sealed(j), sealed(j[:len(j)-3])} {
		wantJoin(t, s, s, "", api.ErrJournal)
		// The last of these would not match: ErrJournal is named ahead of ErrMatch.
		for _, right := range []string{allKept("a"), allKept("ab"), j, allKept(""), allKept(full)} {
			wantJoin(t, s, right, "", api.ErrJournal)
			wantJoin(t, right, s, "", api.ErrJournal)
		}
	}
}

func TestJoinRefusesWhatDoesNotLeadOn(t *testing.T) {
	j := journalOf(list(restore("a"), keep(1)), "ab", "b")
	for _, c := range []struct{ name, k string }{
		{"a longer text", journalOf(list(keep(2)), "bb", "bb")},
		{"an empty text", allKept("")},
		{"another text of the same length", allKept("c")},
		{"the text from which it leads", allKept("ab")},
		{"the same again", j},
		{"the same sum and a longer text", textless(list(keep(2)), sum("b"), sum("b"))},
		{"the same sum and no text", textless(nil, sum("b"), sum("b"))},
		{"the same length and another low byte of the sum", textless(list(keep(1)), sum("b")^1, sum("b"))},
		{"the same length and another high byte of the sum", textless(list(keep(1)), sum("b")^256, sum("b"))},
		{"the sum of its A", textless(list(keep(1)), sum("ab"), sum("b"))},
	} {
		t.Run(c.name, func(t *testing.T) { wantJoin(t, j, c.k, "", api.ErrMatch) })
	}
	// The other way round, where only k's B and j's A agree.
	wantJoin(t, journalOf(list(keep(1)), "a", "a"), journalOf(list(restore("b"), drop(1)), "b", "a"), "", api.ErrMatch)
}

// Length and sum decide; whether the texts are the same, no journal tells.
func TestJoinGoesByLengthAndSum(t *testing.T) {
	b := "abc"
	other := colliding(t, b)
	wantJoin(t, journalOf(list(drop(3)), "", b), journalOf(list(keep(2), restore(other[2:])), other, other[:2]), journalOf(list(drop(2)), "", other[:2]), api.OK)
	wantJoin(t, journalOf(list(keep(3)), b, b), journalOf(list(restore(other)), other, ""), journalOf(list(restore(other)), b, ""), api.OK)
}

func TestJoinAnswersOddTexts(t *testing.T) {
	odd := oddTexts()
	right := journalOf(list(keep(1), restore("b"), drop(1), keep(1)), "abc", "axc")
	for _, s := range odd {
		for _, o := range []string{"", "RT", right, allKept("abc"), allKept("axc"), s} {
			wantSomething(t, s, o)
			wantSomething(t, o, s)
		}
	}
}

// wantSomething: a journal without an error, or an error alone.
func wantSomething(t *testing.T, j, k string) {
	t.Helper()
	s, e := retrace.Join(j, k)
	if e != api.OK && s != "" {
		t.Errorf("P1: Join(%q, %q) = %q, %d", clip(j), clip(k), clip(s), e)
	}
	if e == api.OK {
		wantShort(t, s)
	}
}
