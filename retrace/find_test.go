package retrace_test

import (
	"math"
	"strings"
	"testing"

	"retrace/api"
	"retrace/retrace"
)

func wantFind(t *testing.T, re, s string, at, i, j int, e api.Errno) {
	t.Helper()
	gotI, gotJ, gotE := retrace.Find(re, s, at)
	if gotI != i || gotJ != j || gotE != e {
		t.Errorf("P9: Find(%q, %q, %d) = %d, %d, %d, want %d, %d, %d", clip(re), clip(s), at, gotI, gotJ, gotE, i, j, e)
	}
}

// found: a search, and from where to where it finds.
type found struct {
	re, s    string
	at, i, j int
}

func wantAllFound(t *testing.T, all []found) {
	t.Helper()
	for _, f := range all {
		wantFind(t, f.re, f.s, f.at, f.i, f.j, api.OK)
	}
}

func TestFindFindsTheDocumentsExamples(t *testing.T) {
	wantAllFound(t, []found{
		{"a*", "baaa", 0, 0, 0}, {"a*", "baaa", 1, 1, 4}, {"^a", "aa", 1, -1, -1},
		{".*b", "abab", 0, 0, 4}, {"[b-d]x$", "abxcx", 0, 3, 5}, {"[^a]*a", "bba", 0, 0, 3},
	})
}

func TestFindFindsTheFirstAndTheLongest(t *testing.T) {
	wantAllFound(t, []found{
		{"a", "xaya", 0, 1, 2}, {"a", "xaya", 1, 1, 2}, {"a", "xaya", 2, 3, 4}, {"a", "xaya", 4, -1, -1},
		{"ab", "aab", 0, 1, 3}, {"abc", "ababc", 0, 2, 5}, {"abc", "ab", 0, -1, -1},
		// The first, though a later one is longer.
		{"a*", "xaaa", 0, 0, 0}, {"aa*", "xaxaaa", 0, 1, 2},
		// The longest, though the first item could leave more to the later ones.
		{"a*ab*", "aaabb", 0, 0, 5}, {"a*[ab]*", "aabab", 0, 0, 5}, {".*a", "banana", 0, 0, 6},
	})
}

func TestFindGoesBackFromTooMany(t *testing.T) {
	wantAllFound(t, []found{
		// None, some and all bytes of a `*` are needed.
		{"a*b", "b", 0, 0, 1}, {"a*ab", "aaab", 0, 0, 4}, {"a*b", "aaab", 0, 0, 4}, {"a*aaab", "aaab", 0, 0, 4},
		{"a*aaaab", "aaab", 0, -1, -1}, {".*.*.*", "abc", 0, 0, 3}, {".*b.*a", "abba", 0, 0, 4},
		{"a*b*c*", "aabbcc", 0, 0, 6}, {"a*b*c*", "ccbb", 0, 0, 2}, {"a*a*a*a", "aa", 0, 0, 2}, {"a*a*aaa", "aa", 0, -1, -1},
		{"[ab]*b[ab]*c", "abab", 0, -1, -1}, {"[ab]*b[ab]*a", "abab", 0, 0, 3}, {"x*y*", "", 0, 0, 0}, {"x*y", "", 0, -1, -1},
	})
}

func TestFindKeepsToStartAndEnd(t *testing.T) {
	wantAllFound(t, []found{
		{"^", "", 0, 0, 0}, {"$", "", 0, 0, 0}, {"^$", "", 0, 0, 0}, {"^$", "a", 0, -1, -1}, {"^$", "a", 1, -1, -1},
		{"^", "ab", 0, 0, 0}, {"^", "ab", 1, -1, -1}, {"^", "ab", 2, -1, -1}, {"$", "ab", 0, 2, 2}, {"$", "ab", 1, 2, 2}, {"$", "ab", 2, 2, 2},
		{"^a", "ab", 0, 0, 1}, {"^b", "ab", 0, -1, -1}, {"^b", "ab", 1, -1, -1}, {"^a*", "ba", 0, 0, 0}, {"^a*", "aa", 1, -1, -1},
		{"a$", "aab", 0, -1, -1}, {"a$", "aba", 0, 2, 3}, {"a*$", "aab", 0, 3, 3}, {"a*$", "baa", 0, 1, 3}, {"^a*$", "aab", 0, -1, -1}, {"^a*b$", "aab", 0, 0, 3},
		// The text's start and end, not those of its lines.
		{"^b", "a\nb", 0, -1, -1}, {"^b", "a\nb", 2, -1, -1}, {"a$", "a\nb", 0, -1, -1}, {"a$", "a\n", 0, -1, -1}, {"$", "a\n", 0, 2, 2},
	})
}

func TestFindAtTheEdges(t *testing.T) {
	s := strings.Repeat("a", 255) + "b"
	wantAllFound(t, []found{
		{"a", "", 0, -1, -1}, {"a*", "", 0, 0, 0}, {".", "", 0, -1, -1}, {"[^a]", "", 0, -1, -1},
		{"a*", "aa", 2, 2, 2}, {"a", "aa", 2, -1, -1}, {"b", s, 0, 255, 256}, {"b*", s, 256, 256, 256}, {".*", s, 0, 0, 256},
		{strings.Repeat("a", 255), s, 0, 0, 255}, {strings.Repeat(".", 256), s, 0, 0, 256}, {strings.Repeat(".", 257), s, 0, -1, -1},
		{strings.Repeat(".", 400), s, 0, -1, -1}, {strings.Repeat("a*", 200), s, 0, 0, 255}, {strings.Repeat("a*", 199) + "bb", s, 0, -1, -1},
		{strings.Repeat("x*", 199) + ".b", s, 0, 254, 256}, {"[" + strings.Repeat("a", 397) + "b]", s, 1, 1, 2},
	})
	wantFind(t, "a", s+"b", 0, 0, 0, api.ErrLong)
	wantFind(t, strings.Repeat("a", 401), s, 0, 0, 0, api.ErrLong)
}

func TestFindNamesTheFirstError(t *testing.T) {
	long, wide := strings.Repeat("a", 401), strings.Repeat("a", 257)
	for _, at := range []int{math.MinInt, -2, -1, 3, 4, 257, math.MaxInt} {
		wantFind(t, "a", "aa", at, 0, 0, api.ErrArg)
		wantFind(t, "b", "aa", at, 0, 0, api.ErrArg)
		wantFind(t, "", "aa", at, 0, 0, api.ErrScript)
		wantFind(t, "a**", "aa", at, 0, 0, api.ErrScript)
		wantFind(t, long, "aa", at, 0, 0, api.ErrLong)
		wantFind(t, "a", wide, at, 0, 0, api.ErrLong)
		wantFind(t, "", wide, at, 0, 0, api.ErrLong)
		wantFind(t, strings.Repeat("*", 401), wide, at, 0, 0, api.ErrLong)
		wantFind(t, strings.Repeat("*", 400), "aa", at, 0, 0, api.ErrScript)
	}
	wantFind(t, "a", "", -1, 0, 0, api.ErrArg)
	wantFind(t, "a", "", 1, 0, 0, api.ErrArg)
	wantFind(t, "^", strings.Repeat("a", 256), 257, 0, 0, api.ErrArg)
}

// wantBytes: an expression of one byte matches these bytes, and no others.
func wantBytes(t *testing.T, re string, in func(c int) bool) {
	t.Helper()
	for c := range 256 {
		s := string([]byte{byte(c)})
		if in(c) {
			wantFind(t, re, s, 0, 0, 1, api.OK)
		} else {
			wantFind(t, re, s, 0, -1, -1, api.OK)
		}
	}
}

func TestFindOfEachByte(t *testing.T) {
	for c := range 256 {
		s := string([]byte{byte(c)})
		is := func(d int) bool { return d == c }
		if !strings.Contains("\n\\/.*[]^$", s) {
			wantBytes(t, s, is)
		}
		if !strings.Contains("\n\\/]-^", s) {
			wantBytes(t, "["+s+"]", is)
		}
		if !strings.Contains("\n\\/]-", s) {
			wantBytes(t, "[b"+s+"]", func(d int) bool { return d == c || d == 'b' })
			wantBytes(t, "[^"+s+"]", func(d int) bool { return d != c })
		}
		if s != "n" && s != "\n" {
			wantBytes(t, "\\"+s, is)
			wantBytes(t, "[\\"+s+"]", is)
		}
	}
	wantBytes(t, ".", func(int) bool { return true })
	wantBytes(t, "\\n", func(c int) bool { return c == '\n' })
	wantBytes(t, "[\\n]", func(c int) bool { return c == '\n' })
	wantBytes(t, "[^\\n]", func(c int) bool { return c != '\n' })
}

func TestFindOfMembers(t *testing.T) {
	for _, m := range []struct{ members, in string }{
		{"a", "a"}, {"abc", "abc"}, {"aa", "a"}, {"a-a", "a"}, {"a-c", "abc"}, {"a-cx-z", "abcxyz"}, {"a-cb-d", "abcd"}, {"za-c", "abcz"}, {"a-cz", "abcz"},
		{"a^", "a^"}, {"\\^", "^"}, {"\\^a", "^a"}, {"a-c^", "abc^"}, {"\\^-a", "^_`a"}, {"a\\^b", "ab^"},
		{"\\]", "]"}, {"\\-", "-"}, {"+-\\-", "+,-"}, {"\\+-\\-", "+,-"}, {"\\a-\\c", "abc"}, {"\\n", "\n"}, {"\\n-\\n", "\n"}, {"\\n-\r", "\n\v\f\r"}, {"\t-\\n", "\t\n"},
		{"$.*[", "$.*["}, {"&,!", "&,!"}, {"\\[-\\]", "[\\]"}, {"[-\\]", "[\\]"}, {"\\\\-\\]", "\\]"}, {"\\/", "/"}, {"\\.-\\/", "./"}, {".-0", "./0"}, {" -\"", " !\""},
		{"\xfe-\xff", "\xfe\xff"}, {"\xff", "\xff"}, {"\x00-\x02", "\x00\x01\x02"}, {"\xc3\xa9", "\xc3\xa9"},
	} {
		in := func(c int) bool { return strings.IndexByte(m.in, byte(c)) >= 0 }
		wantBytes(t, "["+m.members+"]", in)
		wantBytes(t, "[^"+m.members+"]", func(c int) bool { return !in(c) })
	}
	wantBytes(t, "[\x00-\xff]", func(int) bool { return true })
	wantBytes(t, "[^\x00-\xff]", func(int) bool { return false })
	wantBytes(t, "[^^]", func(c int) bool { return c != '^' })
	wantBytes(t, "[^^-a]", func(c int) bool { return c < '^' || c > 'a' })
}

// Each range, by its two ends and the bytes beside them.
func TestFindOfEachRange(t *testing.T) {
	for low := range 256 {
		for high := range 256 {
			if low == '\n' || high == '\n' || low == 'n' || high == 'n' {
				continue
			}
			re := string([]byte{'[', '\\', byte(low), '-', '\\', byte(high), ']'})
			if low > high {
				wantFind(t, re, "", 0, 0, 0, api.ErrScript)
				continue
			}
			for _, c := range []int{max(low-1, 0), low, high, min(high+1, 255)} {
				i, j := -1, -1
				if low <= c && c <= high {
					i, j = 0, 1
				}
				wantFind(t, re, string([]byte{byte(c)}), 0, i, j, api.OK)
			}
		}
	}
}

func TestFindRefusesWhatIsNoExpression(t *testing.T) {
	for _, re := range []string{
		"", "*", "**", "a**", "a***", "^*", "^*a", "a*^", "$*", "$$", "$a", "a$b", "^^", "^^a", "a^", "a^b", "^$$", "^a$b$", "*a", "\\a**", ".**", "[a]**",
		"/", "a/", "/a/", "a/b", "]", "a]", "[a]]", "\n", "a\nb", "\\", "a\\", "^\\", "\\\\\\", "\\\n", "a\\\nb",
		"[", "[]", "[^", "[^]", "[^]a]", "[]a]", "[a", "[^a", "[a]b]", "[a-", "[a-b", "[a-]", "[-", "[-]", "[-a]", "[^-]", "[^-a]", "[a--]", "[a-b-c]", "[a-bc-]", "[--a]", "[a-b-]",
		"[b-a]", "[xb-a]", "[^b-a]", "[a-cb-a]", "[a-\\n]", "[\\b-\\a]", "[\xff-\x00]", "[a-^]", "[/]", "[a/b]", "[+-/]", "[\\--/]", "[/-a]", "[\n]", "[a\nb]", "[a-\n]", "[\\", "[\\]", "[a\\]", "[\\\n]", "[a-\\]", "[a-\\\n]",
		"[]*", "a[]", "a[b-a]c", "([)[", "[[]]",
	} {
		for _, s := range []string{"", "a", re[:min(len(re), 256)]} {
			wantFind(t, re, s, 0, 0, 0, api.ErrScript)
		}
	}
}
