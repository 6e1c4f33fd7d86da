package expression

import (
	"slices"
	"strings"
	"testing"
)

// An expression goes as far as it can: what stands behind it is the caller's.
func TestReadStopsBehindTheExpression(t *testing.T) {
	for _, c := range []struct {
		text       string
		at, behind int
		ok         bool
	}{
		{"a/b", 0, 1, true}, {"a/b", 2, 3, true}, {"/a*b$/p", 1, 5, true}, {"/\\//p", 1, 3, true}, {"/^/", 1, 2, true}, {"ab", 2, 2, false},
		{"//", 1, 1, false}, {"/*/", 1, 1, false}, {"a**", 0, 2, true}, {"a$$", 0, 2, true}, {"^^", 0, 1, true}, {"a[b", 0, 1, true}, {"a[c-b]", 0, 1, true}, {"[a]]", 0, 3, true},
		{"", 0, 0, false}, {"a", 1, 1, false}, {"a", 2, 2, false}, {"a", -1, -1, false}, {"a\\", 0, 1, true}, {"a\n", 0, 1, true}, {"\\n*\n", 0, 3, true},
	} {
		_, behind, ok := Read(c.text, c.at)
		if behind != c.behind || ok != c.ok {
			t.Errorf("Read(%q, %d) = %d, %t, want %d, %t", c.text, c.at, behind, ok, c.behind, c.ok)
		}
	}
}

func TestByteReadsOneByte(t *testing.T) {
	for _, c := range []struct {
		text   string
		at     int
		c      byte
		behind int
		ok     bool
	}{
		{"ab", 0, 'a', 1, true}, {"ab", 1, 'b', 2, true}, {"ab", 2, 0, 2, false}, {"ab", 3, 0, 3, false}, {"ab", -1, 0, -1, false}, {"", 0, 0, 0, false},
		{"\\n", 0, '\n', 2, true}, {"\\\\", 0, '\\', 2, true}, {"\\/", 0, '/', 2, true}, {"\\a", 0, 'a', 2, true}, {"\xff", 0, 255, 1, true}, {"\x00", 0, 0, 1, true},
	} {
		b, behind, ok := Byte(c.text, c.at, "/-")
		if b != c.c || behind != c.behind || ok != c.ok {
			t.Errorf("Byte(%q, %d) = %d, %d, %t, want %d, %d, %t", c.text, c.at, b, behind, ok, c.c, c.behind, c.ok)
		}
	}
	for _, text := range []string{"/", "-", "\n", "\\", "\\\n"} {
		_, _, ok := Byte(text, 0, "/-")
		if ok {
			t.Errorf("Byte(%q, 0) answers a byte", text)
		}
	}
}

func TestFindAtNoPlace(t *testing.T) {
	e, _, _ := Read("a*", 0)
	for _, at := range []int{-1, 3, 4, 1 << 30} {
		i, j := e.Find("aa", at)
		if i != -1 || j != -1 {
			t.Errorf("Find at %d = %d, %d", at, i, j)
		}
	}
}

// As many ways to match as there can be: a search that tried them one by one would not end.
func TestFindEnds(t *testing.T) {
	text := strings.Repeat("a", 256)
	for _, re := range []string{strings.Repeat("a*", 199) + "b", strings.Repeat(".*a*", 99) + "[^a]", "^" + strings.Repeat("[ab]*", 79) + "b$"} {
		e, behind, ok := Read(re, 0)
		if !ok || behind != len(re) {
			t.Fatalf("%q is no expression", re)
		}
		for range 100 {
			i, j := e.Find(text, 0)
			if i != -1 || j != -1 {
				t.Fatalf("Find(%.20q) = %d, %d", re, i, j)
			}
		}
	}
}

func TestMatchesDoNotOverlap(t *testing.T) {
	for _, c := range []struct {
		re, s string
		want  []Span
	}{
		{"a", "", nil}, {"a", "bb", nil}, {"a", "aba", []Span{{0, 1}, {2, 3}}}, {"aa", "aaaaa", []Span{{0, 2}, {2, 4}}}, {"aba", "ababa", []Span{{0, 3}}},
		{"a*", "", []Span{{0, 0}}}, {"a*", "aa", []Span{{0, 2}}}, {"a*", "baac", []Span{{0, 0}, {1, 3}, {4, 4}}}, {"x*", "ab", []Span{{0, 0}, {1, 1}, {2, 2}}},
		{"^", "ab", []Span{{0, 0}}}, {"$", "ab", []Span{{2, 2}}}, {"^a", "aa", []Span{{0, 1}}}, {"a*$", "baa", []Span{{1, 3}}}, {"^$", "", []Span{{0, 0}}}, {"^$", "a", nil},
	} {
		e, _, _ := Read(c.re, 0)
		got := e.Matches(c.s)
		if !slices.Equal(got, c.want) {
			t.Errorf("Matches of %q in %q = %v, want %v", c.re, c.s, got, c.want)
		}
	}
}
