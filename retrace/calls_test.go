package retrace_test

import (
	"math"
	"slices"
	"strings"
	"testing"

	"retrace/api"
	"retrace/retrace"
)

// oddTexts: texts that are journals, nearly journals, and neither.
func oddTexts() []string {
	l := []string{"", "\x00", "\n", "R", "RT", "RT\xff", "RT\xff\xff\xff\xff\xff", "RT\x80", "abc", "axc", "\xff\xfe", full, over,
		strings.Repeat("\xff", 12352), strings.Repeat("\xff", 12353), strings.Repeat("RT", 100000)}
	for _, w := range ways() {
		j := journalOf(w.l, w.a, w.b)
		l = append(l, j, j[1:], j[:len(j)-1], j+"\x00", sealed(j), sealed(j[:len(j)-3]))
	}
	return l
}

func oddLists() [][]api.Record {
	var l [][]api.Record
	for _, kind := range []int{math.MinInt, -1, 0, 1, 2, 3, math.MaxInt} {
		for _, n := range []int{math.MinInt, -1, 0, 1, 2, 4096, 4097, math.MaxInt} {
			for _, s := range []string{"", "a", "ab", full} {
				r := api.Record{Kind: kind, N: n, S: s}
				l = append(l, list(r), list(r, r), list(keep(1), r), list(r, drop(1)))
			}
		}
	}
	return l
}

// A call that panics or does not end breaks the test itself.
func TestCallsAnswerOddTexts(t *testing.T) {
	odd := oddTexts()
	for _, s := range odd {
		wantSum(t, s)
		l, e := retrace.Read(s)
		if e != api.OK && l != nil {
			t.Errorf("P1: Read(%q) = %.90v, %d", clip(s), l, e)
		}
		for _, b := range []string{"", "a", "abc", s, full, over} {
			wantNothingWithAnError(t, b, s)
		}
	}
}

func wantNothingWithAnError(t *testing.T, b, j string) {
	t.Helper()
	a, e := retrace.Undo(b, j)
	if e != api.OK && a != "" {
		t.Errorf("P1: Undo(%q, %q) = %q, %d", clip(b), clip(j), clip(a), e)
	}
}

func TestWriteAnswersOddLists(t *testing.T) {
	for _, l := range oddLists() {
		for _, a := range []string{"", "a", "ab", full, over} {
			for _, b := range []string{"", "a", "ab", full, over} {
				before := slices.Clone(l)
				j, e := retrace.Write(l, a, b)
				if e != api.OK && j != "" {
					t.Errorf("P1: Write(%.90v, %q, %q) = %q, %d", l, clip(a), clip(b), clip(j), e)
				}
				if e == api.OK {
					wantUndo(t, b, j, a, api.OK)
				}
				if !slices.Equal(l, before) {
					t.Errorf("P2: Write wrote into its list: %.90v was %.90v", l, before)
				}
			}
		}
	}
}

// What stands behind the list in the caller's array is the caller's too.
func TestWriteLeavesTheListAlone(t *testing.T) {
	all := list(keep(1), drop(1), restore("b"), keep(1), drop(77), restore("behind"))
	before := slices.Clone(all)
	wantWrite(t, all[:4], "abc", "axc", journalOf(before[:4], "abc", "axc"), api.OK)
	if !slices.Equal(all, before) {
		t.Errorf("P2: Write wrote into the list: %v", all)
	}
}

func TestReadAnswersFreshLists(t *testing.T) {
	want := list(keep(1), drop(1), restore("b"), keep(1))
	j := journalOf(want, "abc", "axc")
	first, _ := retrace.Read(j)
	second, _ := retrace.Read(j)
	for i := range first {
		first[i] = api.Record{Kind: 9, N: -9, S: "overwritten"}
	}
	_ = append(first[:0], restore("more"))
	if !slices.Equal(second, want) {
		t.Errorf("P2: a list that was answered earlier is now %v", second)
	}
	wantRead(t, j, want, api.OK)
	wantUndo(t, "axc", j, "abc", api.OK)
	wantWrite(t, want, "abc", "axc", j, api.OK)
}

// The answers are the same again, whatever was asked between.
func TestCallsRememberNothing(t *testing.T) {
	for range 2 {
		for _, w := range ways() {
			j := journalOf(w.l, w.a, w.b)
			wantWrite(t, w.l, w.a, w.b, j, api.OK)
			wantRead(t, j+"\x00", nil, api.ErrJournal)
			wantRead(t, j, w.l, api.OK)
			wantUndo(t, w.b+"\x00", strings.Repeat("x", 12353), "", api.ErrLong)
			wantUndo(t, w.b, j, w.a, api.OK)
			short := journalOf(modelOf(w.l).short(), w.a, w.b)
			wantPack(t, j, short, api.OK)
			wantJoin(t, j, "no journal", "", api.ErrJournal)
			wantJoin(t, allKept(w.a), j, short, api.OK)
		}
	}
}

// Every list of up to four short records over short texts, against a plain reading of "leads".
func TestAllShortLists(t *testing.T) {
	choice := list(keep(1), keep(2), drop(1), drop(2), restore("a"), restore("b"), restore("ab"), drop(0))
	texts := []string{"", "a", "b", "aa", "ab", "ba", "aba"}
	lists := [][]api.Record{nil}
	for from := 0; len(lists[from]) < 4; from++ {
		for _, r := range choice {
			lists = append(lists, append(slices.Clone(lists[from]), r))
		}
	}
	for _, l := range lists {
		for _, a := range texts {
			for _, b := range texts {
				wantLed(t, l, a, b)
			}
		}
	}
}

func wantLed(t *testing.T, l []api.Record, a, b string) {
	t.Helper()
	switch {
	case slices.Contains(l, drop(0)):
		wantWrite(t, l, a, b, "", api.ErrArg)
	case !leads(l, a, b):
		wantWrite(t, l, a, b, "", api.ErrMatch)
	default:
		j := journalOf(l, a, b)
		wantWrite(t, l, a, b, j, api.OK)
		wantRead(t, j, l, api.OK)
		wantUndo(t, b, j, a, api.OK)
	}
}

func leads(l []api.Record, a, b string) bool {
	if len(l) == 0 {
		return a == "" && b == ""
	}
	r := l[0]
	switch {
	case r.Kind == api.Restore:
		return strings.HasPrefix(a, r.S) && leads(l[1:], a[r.N:], b)
	case r.N > len(b):
		return false
	case r.Kind == api.Drop:
		return leads(l[1:], a, b[r.N:])
	}
	return strings.HasPrefix(a, b[:r.N]) && leads(l[1:], a[r.N:], b[r.N:])
}
