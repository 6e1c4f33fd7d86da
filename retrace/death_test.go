package retrace_test

import (
	"strings"
	"testing"

	"retrace/api"
)

// dying: a run with bounds, what it puts out and how it ends.
type dying struct {
	script      string
	steps, room int
	in, out     string
	e           api.Errno
}

func wantDeaths(t *testing.T, all ...dying) {
	t.Helper()
	for _, d := range all {
		wantDeath(t, d.script, d.steps, d.room, d.in, d.out, d.e)
	}
}

func TestDeathByTheDocumentsExamples(t *testing.T) {
	x := opened(t, ":x\nbx", false, 10, 256)
	wantFeed(t, x, "a\nb", "", api.ErrSteps)
	wantClose(t, x, "", "", api.ErrSteps)
	wantClose(t, x, "", "", api.ErrClosed)
	x = opened(t, "", false, 5000, 2)
	wantFeed(t, x, "ab\nabc\n", "ab\n", api.OK)
	wantClose(t, x, "", "", api.ErrRoom)
}

func TestDeathBySteps(t *testing.T) {
	wantDeaths(t,
		dying{"", 0, 256, "a\nb", "a\nb\n", api.OK}, dying{"p", 0, 256, "", "", api.OK}, dying{"p", 0, 256, "a", "", api.ErrSteps}, dying{"p", 1, 256, "a", "a\na\n", api.OK}, dying{"p", 1, 256, "a\nb", "a\na\n", api.ErrSteps},
		dying{"p\np", 1, 256, "a", "a\n", api.ErrSteps}, dying{"p\np", 2, 256, "a", "a\na\na\n", api.OK}, dying{"ax\np", 1, 256, "a", "", api.ErrSteps},
		// Each command counts that is reached, whether it is selected or does something.
		dying{"2p\np", 1, 256, "a", "", api.ErrSteps}, dying{"2p\np", 2, 256, "a", "a\na\n", api.OK}, dying{":a", 0, 256, "a", "", api.ErrSteps}, dying{":a", 1, 256, "a", "a\n", api.OK},
		dying{"{\n}", 1, 256, "a", "", api.ErrSteps}, dying{"{\n}", 2, 256, "a", "a\n", api.OK}, dying{"t\np", 1, 256, "a", "", api.ErrSteps}, dying{"s/x/y/\np", 1, 256, "a", "", api.ErrSteps},
		// None counts that is passed over.
		dying{"2{\np\np\n}\np", 2, 256, "a", "a\na\n", api.OK}, dying{"2{\np\n}\np", 1, 256, "a", "", api.ErrSteps}, dying{"bx\np\n:x", 1, 256, "a", "a\n", api.OK}, dying{"b\np", 1, 256, "a", "a\n", api.OK}, dying{"d\np", 1, 256, "a", "", api.OK}, dying{"cx\np", 1, 256, "a", "x\n", api.OK}, dying{"q\np", 1, 256, "a\nb", "a\n", api.OK},
		// Each time it is reached.
		dying{":x\nbx", 10, 256, "a", "", api.ErrSteps}, dying{":x\n=\nbx", 6, 256, "a", "1\n1\n1\n", api.ErrSteps}, dying{"N\nD", 6, 256, "a\nb\nc\nd", "", api.ErrSteps}, dying{"N\nD", 7, 256, "a\nb\nc\nd", "d\n", api.OK}, dying{":x\ns/a/b/\ntx", 6, 256, "aa", "", api.ErrSteps}, dying{":x\ns/a/b/\ntx", 7, 256, "aa", "bb\n", api.OK},
		// A line that is asked for within a command costs nothing.
		dying{"n\nn", 2, 256, "a\nb\nc", "a\nb\nc\n", api.OK}, dying{"n\nn", 2, 256, "a\nb\nc\nd", "a\nb\nc\n", api.ErrSteps}, dying{"N\nN", 2, 256, "a\nb\nc", "a\nb\nc\n", api.OK},
	)
	lines := strings.Repeat("\n", 2501)
	wantDeaths(t, dying{"{\n}", 5000, 256, lines[:2500], lines[:2500], api.OK}, dying{"{\n}", 4999, 256, lines[:2500], lines[:2499], api.ErrSteps}, dying{"{\n}", 5000, 256, lines, lines[:2500], api.ErrSteps})
}

func TestDeathByRoom(t *testing.T) {
	wantDeaths(t,
		dying{"", 9, 1, "a\n\nb", "a\n\nb\n", api.OK}, dying{"", 9, 1, "a\nab\nc", "a\n", api.ErrRoom}, dying{"", 9, 2, "ab\nabc\nd", "ab\n", api.ErrRoom}, dying{"d", 9, 2, "abc", "", api.ErrRoom},
		dying{"n", 9, 1, "a\nb", "a\nb\n", api.OK}, dying{"n", 9, 1, "a\nab", "a\n", api.ErrRoom}, dying{"ax\nn", 9, 1, "a\nab", "a\nx\n", api.ErrRoom},
		dying{"N", 9, 3, "a\nb", "a\nb\n", api.OK}, dying{"N", 9, 2, "a\nb", "", api.ErrRoom}, dying{"N", 9, 2, "a\n\n", "a\n\n", api.OK}, dying{"N", 9, 1, "a\n\n", "", api.ErrRoom}, dying{"p\nax\nN", 9, 2, "a\nb", "a\nx\n", api.ErrRoom}, dying{"N", 9, 1, "a", "a\n", api.OK},
		dying{"G", 9, 2, "a", "a\n\n", api.OK}, dying{"G", 9, 1, "a", "", api.ErrRoom}, dying{"h\nG", 9, 3, "a", "a\na\n", api.OK}, dying{"h\nG", 9, 2, "a", "", api.ErrRoom}, dying{"ax\nG", 9, 1, "a", "", api.ErrRoom},
		dying{"H", 9, 2, "a", "a\n", api.OK}, dying{"H", 9, 1, "a", "", api.ErrRoom}, dying{"p\nH\nH", 9, 3, "a", "a\n", api.ErrRoom}, dying{"p\nH\nH", 9, 4, "a", "a\na\n", api.OK}, dying{"H", 9, 5, "a\nb\nc", "a\nb\n", api.ErrRoom},
		dying{"h\nx\ng\ny/a/b/\nP\nD", 9, 1, "a", "b\n", api.OK},
	)
	long := strings.Repeat("a", 257)
	wantDeaths(t, dying{"", 9, 256, long[:256], long[:256] + "\n", api.OK}, dying{"", 9, 256, long, "", api.ErrRoom}, dying{"", 9, 256, long + "\n", "", api.ErrRoom}, dying{"s/$/a/", 9, 256, long[:255], long[:256] + "\n", api.OK}, dying{"s/$/a/", 9, 256, long[:256], "", api.ErrRoom})
}

func TestDeathByRoomInSubstitutions(t *testing.T) {
	wantDeaths(t,
		dying{"s/a/bb/", 9, 2, "a", "bb\n", api.OK}, dying{"s/a/bb/", 9, 1, "a", "", api.ErrRoom}, dying{"s/a/bb/p", 9, 1, "a", "", api.ErrRoom}, dying{"p\ns/a/bb/p", 9, 1, "a", "a\n", api.ErrRoom}, dying{"s/x/bb/", 9, 1, "a", "a\n", api.OK}, dying{"s/a/bb/2", 9, 1, "a", "a\n", api.OK},
		dying{"s/a/&&/g", 9, 6, "aaa", "aaaaaa\n", api.OK}, dying{"s/a/&&/g", 9, 5, "aaa", "", api.ErrRoom}, dying{"s/a/aaa/\ns/aaa/a/", 9, 2, "a", "", api.ErrRoom},
		// Longer between its matches, but not in the result.
		dying{"s/ab*/xx/g", 9, 5, "aabbb", "xxxx\n", api.OK}, dying{"s/ab*/xx/g", 9, 5, "abbba", "xxxx\n", api.OK}, dying{"s/ab*/xx/g", 9, 4, "abba", "xxxx\n", api.OK},
	)
	// As long a result as there can be.
	wantDeath(t, "s/.*/"+strings.Repeat("&", 390)+"/", 9, 256, strings.Repeat("a", 256), "", api.ErrRoom)
	wantDeath(t, "s/x*/"+strings.Repeat("y", 390)+"/g", 9, 256, strings.Repeat("a", 256), "", api.ErrRoom)
	wantDeath(t, ":x\ns/^/ab/\nbx", 5000, 256, "\n", "", api.ErrRoom)
}

func TestDeathByOutput(t *testing.T) {
	x := strings.Repeat("x", 399)
	wantDeaths(t,
		dying{"", 9, 256, full, full, api.OK}, dying{"", 9, 256, full[:4095], full, api.OK}, dying{"", 9, 256, full[:4095] + "x", full[:4088], api.ErrOut}, dying{"p", 5000, 256, strings.Repeat("a\n", 1025), strings.Repeat("a\n", 2048), api.ErrOut}, dying{"p", 5000, 256, strings.Repeat("a\n", 1024), strings.Repeat("a\n", 2048), api.OK},
		// A text and its newline go out whole or not at all; so does each text of the queue.
		dying{"i" + x, 5000, 256, strings.Repeat("a\n", 11), strings.Repeat(x+"\na\n", 10), api.ErrOut}, dying{"c" + x, 5000, 256, strings.Repeat("a\n", 11), strings.Repeat(x+"\n", 10), api.ErrOut}, dying{"a" + x, 5000, 256, strings.Repeat("a\n", 11), strings.Repeat("a\n"+x+"\n", 10) + "a\n", api.ErrOut},
		dying{"ax\nay", 5000, 256, strings.Repeat("\n", 820), strings.Repeat("\nx\ny\n", 819) + "\n", api.ErrOut}, dying{"ax\nayy", 5000, 256, strings.Repeat("\n", 683), strings.Repeat("\nx\nyy\n", 682) + "\nx\n", api.ErrOut}, dying{"ax\nay\nd", 5000, 256, strings.Repeat("\n", 1025), strings.Repeat("x\ny\n", 1024), api.ErrOut},
		dying{"ax\nay\nD", 5000, 256, strings.Repeat("\n", 1025), strings.Repeat("x\ny\n", 1024), api.ErrOut}, dying{"p\n1024q", 5000, 256, strings.Repeat("a\n", 1100), strings.Repeat("a\n", 2048), api.OK}, dying{"p\n1025q", 5000, 256, strings.Repeat("a\n", 1100), strings.Repeat("a\n", 2048), api.ErrOut},
		dying{"P", 5000, 256, strings.Repeat("a\n", 1025), strings.Repeat("a\n", 2048), api.ErrOut}, dying{"N\nP", 5000, 256, strings.Repeat("\n", 2732), strings.Repeat("\n", 4096), api.ErrOut}, dying{"=", 5000, 256, strings.Repeat("\n", 1000), numbered(1000), api.ErrOut}, dying{":x\np\nbx", 5000, 256, "abc", strings.Repeat("abc\n", 1024), api.ErrOut},
		dying{"s/a/b/p", 5000, 256, strings.Repeat("a\n", 1025), strings.Repeat("b\n", 2048), api.ErrOut}, dying{"p\nn", 5000, 256, strings.Repeat("a\n", 1400), strings.Repeat("a\n", 2048), api.ErrOut},
	)
	// Over all calls together.
	e := opened(t, "", false, 0, 256)
	wantFeed(t, e, full[:4088], full[:4080], api.OK)
	wantFeed(t, e, "abcdefgh", full[4080:4088], api.OK)
	wantClose(t, e, "", "", api.ErrOut)
}

// numbered: what `=` puts out over so many empty lines, up to what fits.
func numbered(lines int) string {
	s := ""
	for n := 1; n <= lines; n++ {
		for _, more := range []string{decimal(n) + "\n", "\n"} {
			if len(s)+len(more) > 4096 {
				return s
			}
			s += more
		}
	}
	return s
}

func decimal(n int) string {
	if n < 10 {
		return string(rune('0' + n))
	}
	return decimal(n/10) + string(rune('0'+n%10))
}

// Of two deaths in one command it is the one that comes first.
func TestTheFirstDeathCounts(t *testing.T) {
	in := strings.Repeat("abcdefg\n", 255) + "a\nabcdefgh\n"
	out := strings.Repeat("abcdefg\n", 510) + "a\n"
	wantDeaths(t, dying{"256{\na" + strings.Repeat("y", 20) + "\nn\n}\np", 5000, 7, in, out, api.ErrOut}, dying{"256{\nay\nn\n}\np", 5000, 7, in, out + "y\n", api.ErrRoom},
		dying{"256{\na" + strings.Repeat("y", 20) + "\nN\n}\np", 5000, 7, in, out[:4080], api.ErrOut}, dying{"256{\na" + strings.Repeat("y", 20) + "\nay\nn\n}\np", 5000, 7, in, out, api.ErrOut}, dying{"256{\na" + strings.Repeat("y", 20) + "\nq\n}\np", 5000, 7, in, out, api.ErrOut},
		dying{"256{\na" + strings.Repeat("y", 20) + "\nd\n}\np", 5000, 7, in, out[:4080], api.ErrOut}, dying{"256{\ni" + strings.Repeat("y", 20) + "\niy\n}\np", 5000, 7, in, out[:4080], api.ErrOut}, dying{"256{\naz\nc" + strings.Repeat("y", 20) + "\n}\np", 5000, 7, in, out[:4080], api.ErrOut})
	wantDeaths(t, dying{"p\ns/a/aa/p", 1, 1, "a", "a\n", api.ErrSteps}, dying{"p\ns/a/aa/p", 2, 1, "a", "a\n", api.ErrRoom})
}

// More steps or more room: the same is put out, and more behind it; the same alone, if the run ended.
func TestMoreStepsAndRoomPutOutMore(t *testing.T) {
	r := newSource(14)
	more := 0
	for range 10000 {
		s := r.setting(1 + r.IntN(6))
		script := scriptOf(s.acts)
		in := r.stringOf("aabbc\n\n\n", 14)
		steps, room := s.steps/(1+r.IntN(4)), 1+(s.room-1)/(1+r.IntN(4))
		out, j, e := ran(t, script, s.quiet, steps, room, in)
		all, k, f := ran(t, script, s.quiet, s.steps, s.room, in)
		if !strings.HasPrefix(all, out) || e == api.OK && (all != out || k != j || f != api.OK) {
			t.Fatalf("P15: %q (%t) over %q with %d steps and %d of room: %q, %d; with %d and %d: %q, %d", script, s.quiet, in, steps, room, out, e, s.steps, s.room, all, f)
		}
		if all != out {
			more++
		}
	}
	if more < 500 {
		t.Errorf("only %d runs put more out", more)
	}
}
