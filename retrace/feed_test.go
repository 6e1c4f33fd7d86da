package retrace_test

import (
	"strings"
	"testing"

	"retrace/api"
)

// fed: a piece, and what is put out by it.
type fed struct{ s, out string }

func wantFeeds(t *testing.T, script string, quiet bool, last string, pieces ...fed) {
	t.Helper()
	x := opened(t, script, quiet, 5000, 256)
	in, out := "", ""
	for _, p := range pieces {
		wantFeed(t, x, p.s, p.out, api.OK)
		in += p.s
		out += p.out
	}
	got, j, e := x.Close()
	if got != last || e != api.OK {
		t.Errorf("P12: %q over %q: Close() = %q, %d, want %q", script, in, got, e, last)
	}
	wantUndo(t, out+last, j, in, api.OK)
}

// A line is ready when a byte stands behind its newline.
func TestFeedTakesLinesThatAreReady(t *testing.T) {
	wantFeeds(t, "", false, "")
	wantFeeds(t, "", false, "", fed{"", ""}, fed{"", ""})
	wantFeeds(t, "", false, "a\n", fed{"a", ""})
	wantFeeds(t, "", false, "a\n", fed{"a\n", ""})
	wantFeeds(t, "", false, "a\n", fed{"a", ""}, fed{"\n", ""}, fed{"", ""})
	wantFeeds(t, "", false, "b\n", fed{"a\nb", "a\n"})
	wantFeeds(t, "", false, "b\n", fed{"a", ""}, fed{"\n", ""}, fed{"", ""}, fed{"b", "a\n"}, fed{"\n", ""})
	wantFeeds(t, "", false, "\n", fed{"\n", ""}, fed{"\n", "\n"})
	wantFeeds(t, "", false, "\n", fed{"\n\n\n", "\n\n"})
	wantFeeds(t, "", false, "e\n", fed{"a\nb\nc", "a\nb\n"}, fed{"d\ne", "cd\n"})
	wantFeeds(t, "", false, "\x00\n", fed{"\x00\n", ""}, fed{"\x00", "\x00\n"})
}

func TestFeedWaitsWhereALineIsAskedFor(t *testing.T) {
	// What comes ahead of the asking is put out, what comes behind it is not.
	wantFeeds(t, "p\nn\np", true, "d\n", fed{"a\n", ""}, fed{"b", "a\n"}, fed{"\n", ""}, fed{"c", "b\n"}, fed{"\nd", "c\n"})
	wantFeeds(t, "n", false, "c\n", fed{"a\nb", ""}, fed{"\nc", "a\nb\n"})
	wantFeeds(t, "ix\nN\niy", false, "y\nc\nd\n", fed{"a\nb", "x\n"}, fed{"\nc", "y\na\nb\n"}, fed{"\nd", "x\n"})
	wantFeeds(t, "ax\nn\nd", false, "c\nx\n", fed{"a\nb", ""}, fed{"\nc\n", "a\nx\n"})
	wantFeeds(t, "ax\nN\nd", false, "c\nx\n", fed{"a\nb", ""}, fed{"\nc\n", "x\n"})
	wantFeeds(t, "$!N\nP\nD", false, "b\nc\n", fed{"a\nb", ""}, fed{"\nc", "a\n"})
	wantFeeds(t, "ax\nN\nN", true, "x\n", fed{"a\nb\nc", "x\n"}, fed{"d\n", ""}, fed{"e\n", ""})
}

// A command that waits is reached once: its range, its steps and the mark are as if it had not waited.
func TestFeedDoesNotReachACommandTwice(t *testing.T) {
	wantFeeds(t, "1,2n\n=", true, "", fed{"a\n", ""}, fed{"", ""}, fed{"b", ""}, fed{"\n", ""}, fed{"", ""}, fed{"c", "2\n"}, fed{"\n", ""})
	wantFeeds(t, "/a/,/a/n\np", true, "d\n", fed{"a\n", ""}, fed{"b\n", ""}, fed{"", ""}, fed{"c\n", "b\n"}, fed{"d\n", ""}, fed{"", ""})
	wantFeeds(t, "s/a/b/\nn\nt\np", true, "c\n", fed{"a\n", ""}, fed{"c", ""}, fed{"\n", ""})
	x := opened(t, "n\nN", true, 2, 256)
	for _, s := range []string{"a", "", "\n", "b", "", "\n", "", "c", "\n"} {
		wantFeed(t, x, s, "", api.OK)
	}
	wantFeed(t, x, "d", "", api.OK)
	wantFeed(t, x, "\ne", "", api.ErrSteps)
}

func TestFeedTellsTheLastLineOnlyWhenItIsCertain(t *testing.T) {
	wantFeeds(t, "$d", false, "", fed{"a\n", ""}, fed{"b\n", "a\n"}, fed{"c\n", "b\n"})
	wantFeeds(t, "$!d", false, "c\n", fed{"a\nb\n", ""}, fed{"", ""}, fed{"c", ""})
	wantFeeds(t, "$=", true, "2\n", fed{"a\nb", ""})
	wantFeeds(t, "$=", true, "2\n", fed{"a\nb\n", ""})
	wantFeeds(t, "$=", true, "3\n", fed{"a\nb\n\n", ""})
	wantFeeds(t, "n\n$=", true, "2\n", fed{"a\nb\n", ""})
	wantFeeds(t, "N\n$=", true, "2\n", fed{"a\nb\n", ""})
}

func TestFeedBehindTheEndOfARun(t *testing.T) {
	x := opened(t, "q", false, 5000, 256)
	wantFeed(t, x, "a\nb", "a\n", api.OK)
	wantFeed(t, x, "c\nd\n", "", api.OK)
	wantFeed(t, x, "", "", api.OK)
	wantFeed(t, x, strings.Repeat("x", 4090), "", api.ErrLong)
	wantFeed(t, x, strings.Repeat("x", 4089), "", api.OK)
	wantFeed(t, x, "x", "", api.ErrLong)
	in := "a\nbc\nd\n" + strings.Repeat("x", 4089)
	if len(in) != 4096 {
		t.Fatal(len(in))
	}
	wantClose(t, x, "", journalOf(list(keep(2), restore(in[2:])), in, "a\n"), api.OK)
	// Neither the rest of the line nor that of the input changes what the line was.
	x = opened(t, "$!q", false, 5000, 256)
	wantFeed(t, x, "a\nb", "a\n", api.OK)
	wantClose(t, x, "", journalOf(list(keep(2), restore("b")), "a\nb", "a\n"), api.OK)
}

func TestFeedOfTooMuchIsAsIfItHadNotBeen(t *testing.T) {
	x := opened(t, "$d", false, 5000, 256)
	wantFeed(t, x, over, "", api.ErrLong)
	wantFeed(t, x, strings.Repeat("x", 1<<20), "", api.ErrLong)
	wantFeed(t, x, "a\nb", "a\n", api.OK)
	wantFeed(t, x, full[:4094], "", api.ErrLong)
	wantFeed(t, x, "\n"+full[:8], "b\n", api.OK)
	wantFeed(t, x, full[:4096-12]+"x", "", api.ErrLong)
	wantFeed(t, x, full[:4096-12], full[:4096-8], api.OK)
	wantFeed(t, x, "x", "", api.ErrLong)
	wantFeed(t, x, "", "", api.OK)
	in := "a\nb\n" + full[:8] + full[:4096-12]
	wantClose(t, x, "", journalOf(list(keep(4092), restore("abcd")), in, in[:4092]), api.OK)
}

func TestFeedAndCloseOfADeadRun(t *testing.T) {
	x := opened(t, "p\n2bx\n3q\n:x\np", false, 5, 256)
	wantFeed(t, x, "a\n", "", api.OK)
	// With five steps the first line comes through; the second dies.
	wantFeed(t, x, "b\nc", "a\na\na\n", api.ErrSteps)
	wantFeed(t, x, "", "", api.ErrSteps)
	wantFeed(t, x, over, "", api.ErrSteps)
	wantClose(t, x, "", "", api.ErrSteps)
	wantClose(t, x, "", "", api.ErrClosed)
	wantFeed(t, x, "", "", api.ErrClosed)
	wantFeed(t, x, over, "", api.ErrClosed)
	wantClose(t, x, "", "", api.ErrClosed)

	x = opened(t, "p", false, 5000, 2)
	wantFeed(t, x, "ab\nabc\n", "ab\nab\n", api.OK)
	wantFeed(t, x, "a", "", api.ErrRoom)
	wantFeed(t, x, "a", "", api.ErrRoom)
	wantClose(t, x, "", "", api.ErrRoom)
	wantFeed(t, x, "a", "", api.ErrClosed)
}

func TestCloseOfARunThatDiesThere(t *testing.T) {
	x := opened(t, "p", false, 2, 256)
	wantFeed(t, x, "a\nb\nc", "a\na\nb\nb\n", api.OK)
	wantClose(t, x, "", "", api.ErrSteps)
	wantClose(t, x, "", "", api.ErrClosed)
	x = opened(t, "p\nH", false, 2, 2)
	wantFeed(t, x, "ab", "", api.OK)
	wantClose(t, x, "ab\n", "", api.ErrRoom)
	wantFeed(t, x, "ab", "", api.ErrClosed)
	x = opened(t, "i"+strings.Repeat("x", 399), false, 5000, 256)
	wantFeed(t, x, strings.Repeat("\n", 10), strings.Repeat(strings.Repeat("x", 399)+"\n\n", 9), api.OK)
	wantClose(t, x, strings.Repeat("x", 399)+"\n\n", journalOf(list(drop(400), keep(1), drop(400), keep(1), drop(400), keep(1), drop(400), keep(1), drop(400), keep(1), drop(400), keep(1), drop(400), keep(1), drop(400), keep(1), drop(400), keep(1), drop(400), keep(1)), strings.Repeat("\n", 10), strings.Repeat(strings.Repeat("x", 399)+"\n\n", 10)), api.OK)
}

func TestCloseClosesForGood(t *testing.T) {
	for _, script := range []string{"", "q", "d"} {
		x := opened(t, script, true, 5000, 256)
		wantFeed(t, x, "a\nb", "", api.OK)
		wantClose(t, x, "", journalOf(list(restore("a\nb")), "a\nb", ""), api.OK)
		wantClose(t, x, "", "", api.ErrClosed)
		wantFeed(t, x, "", "", api.ErrClosed)
		wantFeed(t, x, over, "", api.ErrClosed)
		wantClose(t, x, "", "", api.ErrClosed)
	}
}

// The input in every two pieces, and byte by byte.
func TestPiecesMakeNoDifference(t *testing.T) {
	in := "ab\n\nba\nb\naab\n\n"
	scripts := []string{"", "p", "$!N\nP\nD", "1!G\nh\n$!d", "n\nd", "/a/,/^$/{\n=\ns/a/&x/gp\n}", "N\ns/\\n/+/\n$q", "2,4!y/ab/ba/", "ax\n$!N\niy", "3q", ":x\n$!N\n$!bx\ns/\\n/,/g", "H\nx\ns/\\n/-/\nx\n$g"}
	for _, script := range scripts {
		for end := 0; end <= len(in); end++ {
			text := in[:end]
			out, j, e := ran(t, script, false, 5000, 256, text)
			if e != api.OK {
				t.Fatalf("%q over %q: %d", script, text, e)
			}
			for cut := 0; cut <= end; cut++ {
				wantSame(t, script, out, j, text[:cut], text[cut:])
			}
			wantSame(t, script, out, j, strings.Split(text, "")...)
		}
	}
}

func wantSame(t *testing.T, script, out, j string, pieces ...string) {
	t.Helper()
	gotOut, gotJ, e := ran(t, script, false, 5000, 256, pieces...)
	if gotOut != out || gotJ != j || e != api.OK {
		t.Errorf("P12: %q over the pieces %q puts out %q, journal %q, %d, want %q, %q", script, pieces, gotOut, gotJ, e, out, j)
	}
}

// Several editors at a time, and the same again: none hangs on the others.
func TestEditorsDoNotMeet(t *testing.T) {
	for range 3 {
		x := opened(t, "H\nx\nax\n1,/b/p", false, 5000, 256)
		y := opened(t, "H\nx\nax\n1,/b/p", false, 5000, 256)
		z := opened(t, "s/a/b/g", true, 5000, 256)
		wantFeed(t, x, "a\nb", "\na\n\na\nx\n", api.OK)
		wantFeed(t, z, "a\nb", "", api.OK)
		wantFeed(t, y, "c\nd\ne", "\nc\n\nc\nx\nc\nd\nc\nd\nx\n", api.OK)
		wantClose(t, z, "", journalOf(list(restore("a\nb")), "a\nb", ""), api.OK)
		wantFeed(t, x, "\n", "", api.OK)
		wantFeed(t, z, "a", "", api.ErrClosed)
		out, j, e := x.Close()
		if out != "a\nb\na\nb\nx\n" || e != api.OK {
			t.Errorf("P2: Close() = %q, %d", out, e)
		}
		wantUndo(t, "\na\n\na\nx\n"+out, j, "a\nb\n", api.OK)
	}
}
