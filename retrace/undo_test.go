package retrace_test

import (
	"strings"
	"testing"

	"retrace/api"
	"retrace/retrace"
)

func TestUndoOfTheExample(t *testing.T) {
	j, e := retrace.Write(list(keep(1), restore("b"), drop(1), keep(1)), "abc", "axc")
	if e != api.OK {
		t.Fatalf("P4: Write = %d", e)
	}
	wantUndo(t, "axc", j, "abc", api.OK)
	wantUndo(t, "ayc", j, "", api.ErrMatch)
}

func TestUndoOfWays(t *testing.T) {
	for _, w := range ways() {
		t.Run(w.name, func(t *testing.T) {
			wantUndo(t, w.b, journalOf(w.l, w.a, w.b), w.a, api.OK)
		})
	}
}

func TestUndoRefusesLongTexts(t *testing.T) {
	j := journalOf(list(keep(1)), "a", "a")
	wantUndo(t, over, j, "", api.ErrLong)
	wantUndo(t, full, j, "", api.ErrMatch)
	wantUndo(t, over, "no journal", "", api.ErrLong)
	wantUndo(t, "a", strings.Repeat("a", api.MaxJournal), "", api.ErrJournal)
	wantUndo(t, "a", strings.Repeat("a", api.MaxJournal+1), "", api.ErrLong)
}

func TestUndoRefusesWhatIsNoJournal(t *testing.T) {
	for _, j := range []string{"", "a", "RT", "no journal", sealed(""), sealed("RT")} {
		// ErrJournal is named ahead of ErrMatch.
		for _, b := range []string{"", "a", full} {
			wantUndo(t, b, j, "", api.ErrJournal)
		}
	}
}

func TestUndoRefusesOtherTexts(t *testing.T) {
	for _, w := range ways() {
		if len(w.a)+len(w.b) > 100 {
			continue
		}
		j := journalOf(w.l, w.a, w.b)
		wantUndo(t, w.b+"x", j, "", api.ErrMatch)
		wantUndo(t, "x"+w.b, j, "", api.ErrMatch)
		for i := range len(w.b) {
			wantUndo(t, w.b[:i]+w.b[i+1:], j, "", api.ErrMatch)
			wantUndo(t, w.b[:i]+string([]byte{w.b[i] ^ 1})+w.b[i+1:], j, "", api.ErrMatch)
		}
	}
}

// colliding: another text of three bytes with the same sum.
func colliding(t *testing.T, s string) string {
	t.Helper()
	for n := range 1 << 24 {
		c := string([]byte{byte(n >> 16), byte(n >> 8), byte(n)})
		if c != s && sum(c) == sum(s) {
			return c
		}
	}
	t.Fatal("no other text with that sum")
	return ""
}

// A text with the right length and sum is taken, and one with the right sum alone is not.
func TestUndoGoesByLengthAndSum(t *testing.T) {
	b := "abc"
	other := colliding(t, b)
	wantUndo(t, other, journalOf(list(drop(3)), "", b), "", api.OK)
	wantUndo(t, other, journalOf(list(drop(3), restore("x")), "x", b), "x", api.OK)
	// Here A is made of the other text, and has therefore the sum that it should have.
	wantUndo(t, other, journalOf(list(keep(3)), b, b), other, api.OK)
	// Here it has another.
	wantUndo(t, other, journalOf(list(drop(2), restore("ab"), keep(1)), b, b), "", api.ErrMatch)

	shorter := sealed("RT\x00\x02" + two(sum("")) + two(sum(b)) + records(list(drop(2))))
	wantUndo(t, b, shorter, "", api.ErrMatch)
}

func TestUndoRefusesAnotherSumOfA(t *testing.T) {
	for _, a := range []string{"", "b", "aa"} {
		j := sealed("RT\x01\x01" + two(sum(a)) + two(sum("a")) + "\x04")
		wantRead(t, j, list(keep(1)), api.OK)
		wantUndo(t, "a", j, "", api.ErrMatch)
	}
	j := sealed("RT\x01\x00" + two(sum("a")) + two(sum("")) + "\x06b")
	wantUndo(t, "", j, "", api.ErrMatch)
}
