package retrace_test

import (
	"fmt"
	"testing"

	"retrace/api"
	"retrace/retrace"
)

func opened(t *testing.T, script string, quiet bool, steps, room int) *retrace.Editor {
	t.Helper()
	x, e := retrace.Open(script, quiet, steps, room)
	if x == nil || e != api.OK {
		t.Fatalf("P11: Open(%q, %t, %d, %d) = %v, %d", clip(script), quiet, steps, room, x, e)
	}
	return x
}

func wantFeed(t *testing.T, x *retrace.Editor, s, out string, e api.Errno) {
	t.Helper()
	gotOut, gotE := x.Feed(s)
	if gotOut != out || gotE != e {
		t.Errorf("P12: Feed(%q) = %q, %d, want %q, %d", clip(s), clip(gotOut), gotE, clip(out), e)
	}
}

func wantClose(t *testing.T, x *retrace.Editor, out, j string, e api.Errno) {
	t.Helper()
	gotOut, gotJ, gotE := x.Close()
	if gotOut != out || gotJ != j || gotE != e {
		t.Errorf("P12: Close() = %q, %q, %d, want %q, %q, %d", clip(gotOut), clip(gotJ), gotE, clip(out), clip(j), e)
	}
}

// ran: all that a run puts out that is fed these pieces, its journal, and how it ends.
func ran(t *testing.T, script string, quiet bool, steps, room int, pieces ...string) (string, string, api.Errno) {
	t.Helper()
	x := opened(t, script, quiet, steps, room)
	out := ""
	for _, s := range pieces {
		more, e := x.Feed(s)
		out += more
		if e != api.OK {
			return out, "", e
		}
	}
	more, j, e := x.Close()
	return out + more, j, e
}

// wantOut: a run that ends puts this out, and its journal leads from the input there, by a short list.
func wantOut(t *testing.T, script string, quiet bool, in, out string) {
	t.Helper()
	got, j, e := ran(t, script, quiet, 5000, 256, in)
	if got != out || e != api.OK {
		t.Errorf("P13, P14: %q (quiet: %t) over %q puts out %q, %d, want %q", clip(script), quiet, clip(in), clip(got), e, clip(out))
		return
	}
	wantUndo(t, out, j, in, api.OK)
	wantPack(t, j, j, api.OK)
}

// wantTrace: a run that ends puts this out, and its journal has these records.
func wantTrace(t *testing.T, script string, quiet bool, in, out string, l ...api.Record) {
	t.Helper()
	got, j, e := ran(t, script, quiet, 5000, 256, in)
	if got != out || e != api.OK || j != journalOf(l, in, out) {
		gotL, _ := retrace.Read(j)
		t.Errorf("P16: %q (quiet: %t) over %q puts out %q, with %s, %d, want %q, with %s", clip(script), quiet, clip(in), clip(got), clip(fmt.Sprint(gotL)), e, clip(out), clip(fmt.Sprint(l)))
	}
}

// wantDeath: a run puts this out and dies; or it ends, with OK.
func wantDeath(t *testing.T, script string, steps, room int, in, out string, e api.Errno) {
	t.Helper()
	got, j, gotE := ran(t, script, false, steps, room, in)
	if got != out || gotE != e || e != api.OK && j != "" {
		t.Errorf("P15: %q with %d steps and %d of room over %q puts out %q (%d bytes), %d, want %q (%d bytes), %d", clip(script), steps, room, clip(in), clip(got), len(got), gotE, clip(out), len(out), e)
	}
}

func readOf(t *testing.T, j string) []api.Record {
	t.Helper()
	l, e := retrace.Read(j)
	if e != api.OK {
		t.Fatalf("P5: Read(%q) = %d", clip(j), e)
	}
	return l
}
