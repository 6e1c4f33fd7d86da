package retrace_test

import (
	"strings"
	"testing"
)

func TestTracesOfTheDocumentsExamples(t *testing.T) {
	wantTrace(t, "", false, "a\nb", "a\nb\n", keep(3), drop(1))
	wantTrace(t, "s/o/0/g", false, "foo\nbar\n", "f00\nbar\n", keep(1), drop(2), restore("oo"), keep(5))
	wantTrace(t, "s/x*/-/g", false, "abc\n", "-a-b-c-\n", drop(1), keep(1), drop(1), keep(1), drop(1), keep(1), drop(1), keep(1))
	wantTrace(t, "N\nP\nD", false, "a\nb\nc\n", "a\nb\nc\n", keep(6))
	wantTrace(t, "1!G\nh\n$!d", false, "a\nb\n", "b\na\n", restore("a\n"), keep(1), drop(2), keep(1))
	wantTrace(t, "q", false, "a\nb\n", "a\n", keep(2), restore("b\n"))
	wantTrace(t, "p", false, "a\n", "a\na\n", keep(2), drop(2))
	wantTrace(t, "2,/c/p", true, "a\nb\nc\nd\n", "b\nc\n", restore("a\n"), keep(4), restore("d\n"))
	wantTrace(t, "=\nay", false, "x\n", "1\nx\ny\n", drop(2), keep(2), drop(2))
	wantTrace(t, "y/ab/ba/", false, "abc\n", "bac\n", drop(2), restore("ab"), keep(2))
	wantTrace(t, ":x\ns/aa/a/\ntx", false, "aaaa\n", "a\n", drop(1), restore("aaaa"), keep(1))
	wantTrace(t, "s/a*b/[&]/", false, "aab\n", "[aab]\n", drop(1), keep(3), drop(1), keep(1))
}

func TestTracesAtTheEdges(t *testing.T) {
	for _, quiet := range []bool{false, true} {
		wantTrace(t, "", quiet, "", "")
		wantTrace(t, "d", quiet, "a\nb", "", restore("a\nb"))
	}
	wantTrace(t, "", true, full, "", restore(full))
	wantTrace(t, "", false, full, full, keep(4096))
	wantTrace(t, "", false, full[:4095], full, keep(4095), drop(1))
	wantTrace(t, "$!d", false, full, "abcdefg\n", restore(full[:4088]), keep(8))
	wantTrace(t, "s/a/b/g", false, strings.Repeat("a\n", 3), strings.Repeat("b\n", 3), drop(1), restore("a"), keep(1), drop(1), restore("a"), keep(1), drop(1), restore("a"), keep(1))
}

// The newline behind the pattern space is that of the line that was taken last, if it has one.
func TestTracesOfNewlines(t *testing.T) {
	wantTrace(t, "", false, "a\n", "a\n", keep(2))
	wantTrace(t, "", false, "a", "a\n", keep(1), drop(1))
	wantTrace(t, "P", true, "a\n", "a\n", keep(2))
	wantTrace(t, "P", true, "a", "a\n", keep(1), drop(1))
	wantTrace(t, "p", true, "\n", "\n", keep(1))
	wantTrace(t, "g", false, "a\nb", "\n\n", restore("a"), keep(1), drop(1), restore("b"))
	wantTrace(t, "$!{\nh\nd\n}\nx", false, "a\nb\n", "a\n", keep(1), restore("\nb"), keep(1))
	wantTrace(t, "n\nd", false, "a\nb\n", "a\n", keep(2), restore("b\n"))
	wantTrace(t, "x\nn\nx", false, "a\nb\n", "\na\n", restore("a"), keep(1), drop(1), restore("b"), keep(1))
	// The newline that `N` puts in is the one ahead of the line that it takes.
	wantTrace(t, "N", false, "a\nb", "a\nb\n", keep(3), drop(1))
	wantTrace(t, "N\nP", true, "a\nb\n", "a\n", keep(2), restore("b\n"))
	wantTrace(t, "x\nN", false, "a\nb\n", "\nb\n", restore("a"), keep(3))
	wantTrace(t, "N\ns/\\n/&/", false, "a\nb\n", "a\nb\n", keep(4))
	wantTrace(t, "N\ns/\\n/\\n/", false, "a\nb\n", "a\nb\n", keep(1), drop(1), restore("\n"), keep(2))
	wantTrace(t, "N\ns/.*\\n//", false, "a\nb\n", "b\n", restore("a\n"), keep(2))
	wantTrace(t, "$!N\nP\nD", false, "a\nb", "a\nb\n", keep(3), drop(1))
	// Those of `G` and `H` are from nowhere.
	wantTrace(t, "G", false, "a\n", "a\n\n", keep(1), drop(1), keep(1))
	wantTrace(t, "G\nP", true, "a\n", "a\n", keep(1), drop(1), restore("\n"))
	wantTrace(t, "H\nx\nP", true, "a\n", "\n", drop(1), restore("a\n"))
	wantTrace(t, "H\nx", false, "a\n", "\na\n", drop(1), keep(2))
}

// What is copied or stays keeps its origin; what goes back behind a place that is kept already is dropped.
func TestTracesOfCopies(t *testing.T) {
	wantTrace(t, "h\nG", false, "a\n", "a\na\n", keep(1), drop(2), keep(1))
	wantTrace(t, "1h\n2G", false, "a\nb\n", "a\nb\na\n", keep(3), drop(2), keep(1))
	wantTrace(t, "x", false, "a\nb\n", "\na\n", restore("a"), keep(1), drop(1), restore("b"), keep(1))
	wantTrace(t, "H\n$!d\ng", false, "a\nb\n", "\na\nb\n", drop(1), keep(1), drop(1), restore("\n"), keep(2))
	wantTrace(t, "s/b/&&/", false, "abc\n", "abbc\n", keep(2), drop(1), keep(2))
	wantTrace(t, "s/./&/g", false, "ab\n", "ab\n", keep(3))
	wantTrace(t, "s/ab/x&y&/", false, "abc\n", "xabyabc\n", drop(1), keep(2), drop(3), keep(2))
	wantTrace(t, "s/b//", false, "abc\n", "ac\n", keep(1), restore("b"), keep(2))
	wantTrace(t, "s/x*//g", false, "ab\n", "ab\n", keep(3))
	wantTrace(t, "/b/{\ns/b/\\n/\nD\n}", false, "abc\n", "c\n", restore("ab"), keep(2))
	wantTrace(t, "p\nd", false, "a\nb\n", "a\nb\n", keep(4))
	wantTrace(t, "N\np", false, "a\nb\n", "a\nb\na\nb\n", keep(4), drop(4))
}

// What a command brings with it is from nowhere, though the same bytes stand in the input.
func TestTracesOfNewBytes(t *testing.T) {
	wantTrace(t, "s/a/a/", false, "ab\n", "ab\n", drop(1), restore("a"), keep(2))
	wantTrace(t, "s/a/\\a/", false, "ab\n", "ab\n", drop(1), restore("a"), keep(2))
	wantTrace(t, "s/a/b/p", true, "a\n", "b\n", drop(1), restore("a"), keep(1))
	wantTrace(t, "y/a/a/", false, "bab\n", "bab\n", keep(1), drop(1), restore("a"), keep(2))
	wantTrace(t, "y/xyz/abc/", false, "abc\n", "abc\n", keep(4))
	wantTrace(t, "N\ny/\\n/\\n/", false, "a\nb\n", "a\nb\n", keep(1), drop(1), restore("\n"), keep(2))
	wantTrace(t, "ca", false, "a\nb", "a\na\n", drop(4), restore("a\nb"))
	wantTrace(t, "ia\nd", false, "a\n", "a\n", drop(2), restore("a\n"))
	wantTrace(t, "=\nd", false, "1\n", "1\n", drop(2), restore("1\n"))
	wantTrace(t, "aa\nd", false, "a\n", "a\n", drop(2), restore("a\n"))
	wantTrace(t, "ax", false, "a\nb", "a\nx\nb\nx\n", keep(2), drop(2), keep(1), drop(3))
	wantTrace(t, "ix\n2q", false, "a\nb\nc", "x\na\nx\nb\n", drop(2), keep(2), drop(2), keep(2), restore("c"))
}

// A journal of a run is joined with that of the next one over what was put out.
func TestTracesOfRunsInARowJoin(t *testing.T) {
	r := newSource(16)
	for range 2000 {
		first, second := r.setting(4), r.setting(4)
		in := r.stringOf("aabbc\n\n\n", 14)
		between, j, e := ran(t, scriptOf(first.acts), first.quiet, 5000, 256, in)
		out, k, f := ran(t, scriptOf(second.acts), second.quiet, 5000, 256, between)
		if e == 0 && f == 0 {
			wantUndo(t, between, j, in, 0)
			wantUndo(t, out, k, between, 0)
			joined := modelOf(readOf(t, j)).joined(modelOf(readOf(t, k))).short()
			wantJoin(t, j, k, journalOf(joined, in, out), 0)
			wantUndo(t, out, journalOf(joined, in, out), in, 0)
		}
	}
}
