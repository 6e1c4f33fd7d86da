package retrace_test

import (
	"strings"
	"testing"

	"retrace/api"
	"retrace/retrace"
)

// Scripts and inputs of all kinds of bytes: no run may panic, nor answer something beside an error but what was put out; and a run that ends can be undone.
func TestRunsOfOddTexts(t *testing.T) {
	r := newSource(1)
	scripts := oddTexts()
	for range 20000 {
		scripts = append(scripts, r.oddScript())
	}
	right := 0
	for _, script := range scripts {
		x, e := retrace.Open(script, r.one(2), r.IntN(60), 1+r.IntN(30))
		if e != api.OK {
			continue
		}
		right++
		in, out := "", ""
		for _, piece := range r.pieces(r.stringOf("ab\n\n\n\x00\xff/\\&", 30)) {
			more, e := x.Feed(piece)
			in += piece
			out += more
			if e == api.ErrLong || e == api.ErrClosed || e == api.ErrArg {
				t.Errorf("P12: %q fed with %q: %d", script, piece, e)
			}
		}
		more, j, e := x.Close()
		out += more
		if e != api.OK && j != "" || len(out) > 4096 {
			t.Errorf("P12: %q over %q: %q, %q, %d", script, in, out, j, e)
		}
		if e == api.OK {
			wantUndo(t, out, j, in, api.OK)
			wantPack(t, j, j, api.OK)
		}
	}
	if right < 5000 {
		t.Errorf("only %d scripts are right", right)
	}
}

// oddScript: lines that are nearly all commands.
func (r source) oddScript() string {
	lines := []string{"p", "1,2p", "$!N", "D", "P", "s/a*/&x/g", "s/\xff/\\n/p", "s/[^a-b]*/\\&/2g", "y/a\\n\xff\x00/\xff\x00b\\n/", "=", "ab", "i\xff\x00", "c", "/\\n/,/\xff$/!{", "}", "{", "}", ":a", "ba", "ta", "b", "t", "H", "G", "x", "n", "q", "3,1g", "h", "/^$/d", "pp", "1,"}
	s := ""
	for range 1 + r.IntN(5) {
		s += lines[r.IntN(len(lines))] + "\n"
	}
	return s
}

// Runs with as much to do as there can be: one that does not end breaks the test itself.
func TestTheLongestRunsEnd(t *testing.T) {
	line := strings.Repeat("a", 256) + "\n"
	for _, script := range []string{
		":x\n/" + strings.Repeat("a*", 194) + "b/p\nbx",
		":x\n/" + strings.Repeat(".", 250) + "/,/" + strings.Repeat("a*", 68) + "b/G\nbx",
		":x\ns/" + strings.Repeat("a*", 190) + "/&/9gp\nbx",
		":x\ns/x*//g\nbx",
		":x\na\nbx",
		":x\nN\n$!bx",
	} {
		out, _, _ := ran(t, script, true, 5000, 256, line+line)
		if len(out) > 4096 {
			t.Errorf("P15: %q puts out %d bytes", clip(script), len(out))
		}
	}
	x := opened(t, "", false, 5000, 256)
	for range 4096 {
		wantFeed(t, x, "a", "", api.OK)
	}
	wantClose(t, x, "", "", api.ErrRoom)
}
