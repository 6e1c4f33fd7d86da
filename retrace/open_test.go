package retrace_test

import (
	"math"
	"strings"
	"testing"

	"retrace/api"
	"retrace/retrace"
)

func wantNoEditor(t *testing.T, script string, steps, room int, e api.Errno) {
	t.Helper()
	for _, quiet := range []bool{false, true} {
		x, gotE := retrace.Open(script, quiet, steps, room)
		if x != nil || gotE != e {
			t.Errorf("P11: Open(%q, %t, %d, %d) = %v, %d, want %d", clip(script), quiet, steps, room, x, gotE, e)
		}
	}
}

func TestOpenNamesTheFirstError(t *testing.T) {
	long := strings.Repeat("\n", 401)
	for _, steps := range []int{math.MinInt, -5000, -1, 0, 1, 5000, 5001, math.MaxInt} {
		for _, room := range []int{math.MinInt, -1, 0, 1, 256, 257, math.MaxInt} {
			wantNoEditor(t, long, steps, room, api.ErrLong)
			wantNoEditor(t, strings.Repeat("}", 401), steps, room, api.ErrLong)
			wantNoEditor(t, "}", steps, room, api.ErrScript)
			wantNoEditor(t, strings.Repeat("}", 400), steps, room, api.ErrScript)
			if steps >= 0 && steps <= 5000 && room >= 1 && room <= 256 {
				opened(t, "p", false, steps, room)
				opened(t, "", true, steps, room)
				opened(t, long[:400], true, steps, room)
			} else {
				wantNoEditor(t, "p", steps, room, api.ErrArg)
				wantNoEditor(t, "", steps, room, api.ErrArg)
			}
		}
	}
}

func TestOpenTakesWhatCheckTakes(t *testing.T) {
	scripts := append(oddTexts(), "p", "1,2p", "1,2,3p", "s/a/b", "s/a/b/", "bx", ":x\nbx", "{", "{\n}", "y/a/bc/", "!p", "a", "pp")
	for _, s := range scripts {
		_, want := retrace.Check(s)
		x, e := retrace.Open(s, false, 10, 10)
		if e != want || (x == nil) != (want != api.OK) {
			t.Errorf("P11: Open(%q, ..) = %v, %d, want %d", clip(s), x, e, want)
		}
	}
}

func TestOpenBeginsARunWithoutInput(t *testing.T) {
	for _, script := range []string{"", "p", "$!N\nP\nD", "i\n=\nq", "1!d\n$p", ":x\nbx"} {
		wantClose(t, opened(t, script, false, 0, 1), "", journalOf(nil, "", ""), api.OK)
	}
}

// What Open answers beside an error is no editor; still no call of it panics.
func TestNoEditorDoesNotPanic(t *testing.T) {
	x, _ := retrace.Open("}", false, 0, 1)
	wantFeed(t, x, "a\nb", "", api.ErrClosed)
	wantClose(t, x, "", "", api.ErrClosed)
	x = new(retrace.Editor)
	x.Feed("a\nb")
	x.Close()
}
