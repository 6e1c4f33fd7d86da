package retrace_test

import (
	"strings"
	"testing"

	"retrace/api"
	"retrace/retrace"
)

func TestPackOfTheExample(t *testing.T) {
	j, e := retrace.Write(list(keep(1), restore("b"), drop(1), keep(1)), "abc", "axc")
	if e != api.OK {
		t.Fatalf("P4: Write = %d", e)
	}
	wantPack(t, j, journalOf(list(keep(1), drop(1), restore("b"), keep(1)), "abc", "axc"), api.OK)
}

func TestPackOfLists(t *testing.T) {
	for _, c := range []struct {
		name    string
		l, want []api.Record
		a, b    string
	}{
		{"no records", nil, nil, "", ""},
		{"one Keep", list(keep(2)), list(keep(2)), "ab", "ab"},
		{"one Drop", list(drop(2)), list(drop(2)), "", "xy"},
		{"one Restore", list(restore("ab")), list(restore("ab")), "ab", ""},
		{"short already", list(drop(1), restore("a"), keep(1), drop(1), keep(1), restore("d")), list(drop(1), restore("a"), keep(1), drop(1), keep(1), restore("d")), "abcd", "xbyc"},
		{"Keeps with nothing between", list(keep(1), keep(2), keep(1)), list(keep(4)), "abcd", "abcd"},
		{"Drops that are neighbours", list(keep(1), drop(1), drop(2), keep(1)), list(keep(1), drop(3), keep(1)), "ab", "axyzb"},
		{"Restores that are neighbours", list(keep(1), restore("x"), restore("yz"), keep(1)), list(keep(1), restore("xyz"), keep(1)), "axyzb", "ab"},
		{"a Restore ahead of a Drop, first", list(restore("a"), drop(1)), list(drop(1), restore("a")), "a", "x"},
		{"a Restore ahead of a Drop, last", list(keep(1), restore("b"), drop(1)), list(keep(1), drop(1), restore("b")), "ab", "ax"},
		{"Restores and Drops by turns", list(restore("a"), drop(1), restore("b"), drop(2), restore("cd"), drop(1), keep(1)), list(drop(4), restore("abcd"), keep(1)), "abcde", "wxyze"},
		{"Drops and Restores by turns", list(keep(1), drop(1), restore("b"), drop(1), restore("c")), list(keep(1), drop(2), restore("bc")), "abc", "axy"},
		{"two changes", list(restore("a"), drop(1), keep(1), restore("c"), drop(1), keep(1), restore("e"), drop(1)), list(drop(1), restore("a"), keep(1), drop(1), restore("c"), keep(1), drop(1), restore("e")), "abcde", "xbydz"},
		{"restored as it is dropped", list(restore("a"), drop(1)), list(drop(1), restore("a")), "a", "a"},
		{"another place of the same byte", list(restore("a"), keep(1), drop(1)), list(restore("a"), keep(1), drop(1)), "aa", "aa"},
		{"bytes of all kinds", list(restore("\x00"), restore("\xff\n"), drop(1)), list(drop(1), restore("\x00\xff\n")), "\x00\xff\n", "\x80"},
	} {
		t.Run(c.name, func(t *testing.T) {
			wantWrite(t, c.l, c.a, c.b, journalOf(c.l, c.a, c.b), api.OK)
			want := journalOf(c.want, c.a, c.b)
			wantPack(t, journalOf(c.l, c.a, c.b), want, api.OK)
			wantPack(t, want, want, api.OK)
			wantUndo(t, c.b, want, c.a, api.OK)
		})
	}
}

func TestPackAtMaxData(t *testing.T) {
	z := strings.Repeat("z", api.MaxData)
	both := journalOf(list(drop(4096), restore(full)), full, z)
	for _, c := range []struct {
		name    string
		j, want string
	}{
		{"kept byte by byte", journalOf(repeated(keep(1), 4096), full, full), journalOf(list(keep(4096)), full, full)},
		{"dropped byte by byte", journalOf(repeated(drop(1), 4096), "", full), journalOf(list(drop(4096)), "", full)},
		{"restored byte by byte", journalOf(repeated(restore("z"), 4096), z, ""), journalOf(list(restore(z)), z, "")},
		{"restored ahead of dropped", journalOf(list(restore(full), drop(4096)), full, z), both},
		{"dropped ahead of restored", both, both},
		{"the longest journal", journalOf(append(repeated(restore("z"), 4096), repeated(drop(1), 4096)...), z, full), journalOf(list(drop(4096), restore(z)), z, full)},
	} {
		t.Run(c.name, func(t *testing.T) { wantPack(t, c.j, c.want, api.OK) })
	}
}

func TestPackOfWays(t *testing.T) {
	for _, w := range ways() {
		t.Run(w.name, func(t *testing.T) {
			want := journalOf(modelOf(w.l).short(), w.a, w.b)
			wantPack(t, journalOf(w.l, w.a, w.b), want, api.OK)
			wantUndo(t, w.b, want, w.a, api.OK)
		})
	}
}

// The sums are taken over as they are, whether there are such texts or not.
func TestPackOfAllShortLists(t *testing.T) {
	for _, l := range shapes(5) {
		l = filled(l, 'a')
		want := textless(modelOf(l).short(), 4660, 22136)
		wantPack(t, textless(l, 4660, 22136), want, api.OK)
		wantPack(t, want, want, api.OK)
		wantShort(t, want)
	}
}

// wantShort: that a journal's list is short, in the document's words.
func wantShort(t *testing.T, j string) {
	t.Helper()
	l, e := retrace.Read(j)
	if e != api.OK {
		t.Errorf("P5: Read(%q) = %d", clip(j), e)
	}
	for i := 1; i < len(l); i++ {
		if l[i-1].Kind == l[i].Kind || l[i-1].Kind == api.Restore && l[i].Kind == api.Drop {
			t.Errorf("P7: not short: %.90v", l)
		}
	}
}

func TestPackRefusesWhatReadRefuses(t *testing.T) {
	wantPack(t, strings.Repeat("a", api.MaxJournal), "", api.ErrJournal)
	wantPack(t, strings.Repeat("a", api.MaxJournal+1), "", api.ErrLong)
	start := head(full, full)
	wantPack(t, sealed(start+strings.Repeat("\x05", api.MaxJournal-len(start)-2)), "", api.ErrJournal)
	wantPack(t, sealed(start+strings.Repeat("\x05", api.MaxJournal-len(start)-1)), "", api.ErrLong)
	for _, s := range oddTexts() {
		_, e := retrace.Read(s)
		p, packE := retrace.Pack(s)
		if packE != e || e != api.OK && p != "" {
			t.Errorf("P7: Pack(%q) = %q, %d, Read answers %d", clip(s), clip(p), packE, e)
		}
	}
}
