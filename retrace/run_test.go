package retrace_test

import (
	"strings"
	"testing"
)

// course: a script, what goes in and what comes out.
type course struct{ script, in, out string }

// wantLoud: the runs put the pattern space out at the end of a cycle.
func wantLoud(t *testing.T, all ...course) {
	t.Helper()
	for _, c := range all {
		wantOut(t, c.script, false, c.in, c.out)
	}
}

func wantQuiet(t *testing.T, all ...course) {
	t.Helper()
	for _, c := range all {
		wantOut(t, c.script, true, c.in, c.out)
	}
}

func TestRunsOfTheEmptyScript(t *testing.T) {
	for _, script := range []string{"", "\n", "\n\n", "{\n}", ":a", ":a\n:b", "b", "t", "b\np\np"} {
		wantLoud(t, course{script, "", ""}, course{script, "a", "a\n"}, course{script, "a\n", "a\n"}, course{script, "\n", "\n"}, course{script, "\n\na\n\n", "\n\na\n\n"},
			course{script, "\x00\xff\r\n\x80", "\x00\xff\r\n\x80\n"})
		wantQuiet(t, course{script, "", ""}, course{script, "a", ""}, course{script, "a\nb\n", ""})
	}
}

func TestRunsGoInCycles(t *testing.T) {
	wantLoud(t, course{"=", "a\n\nb", "1\na\n2\n\n3\nb\n"}, course{"p\n=", "a\nb", "a\n1\na\nb\n2\nb\n"})
	wantQuiet(t, course{"=", "a\n\nb", "1\n2\n3\n"}, course{"=", strings.Repeat("\n", 12), "1\n2\n3\n4\n5\n6\n7\n8\n9\n10\n11\n12\n"})
	// The hold space, the ranges and the line number last from cycle to cycle.
	wantLoud(t, course{"x", "a\nb\nc", "\na\nb\n"}, course{"H\nx\nh", "a\nb", "\na\n\na\nb\n"})
}

func TestP(t *testing.T) {
	wantLoud(t, course{"p", "a\nb", "a\na\nb\nb\n"}, course{"p\np", "a", "a\na\na\n"})
	wantQuiet(t, course{"p", "a\nb", "a\nb\n"}, course{"N\np", "a\nb", "a\nb\n"})
	wantQuiet(t, course{"P", "a\nb", "a\nb\n"}, course{"N\nP", "a\nb", "a\n"}, course{"N\nN\nP", "a\nb\nc", "a\n"}, course{"G\nP", "a", "a\n"}, course{"H\nx\nP", "a", "\n"}, course{"P", "\n", "\n"})
}

func TestDeleting(t *testing.T) {
	wantLoud(t, course{"d", "a\nb", ""}, course{"1d", "a\nb", "b\n"}, course{"d\np", "a", ""}, course{"ax\nd\np", "a\nb", "x\nx\n"})
	// The pattern space's first line goes, and the commands begin anew without a line being taken.
	wantLoud(t, course{"D", "a\nb", ""}, course{"ax\nD\np", "a\nb", "x\nx\n"}, course{"N\nD", "a\nb\nc", "c\n"}, course{"$!N\nP\nD", "a\nb\nc", "a\nb\nc\n"},
		course{"=\n1!D\nN\nD", "a\nb\nc", "1\n2\n3\n"}, course{"s/^a/b\\nc/\nP\nD", "a", "b\nc\n"}, course{"ax\n1N\nD\nip", "a\nb", "x\nx\n"})
	wantQuiet(t, course{"p\ns/a/x\\n\\ny/\nD", "a", "a\n\ny\ny\n"}, course{"N\ns/a/b/\nt\np\nD", "x\ny\na\n", "x\ny\n"})
	// The mark stays on over `D`: no line is taken.
	wantQuiet(t, course{"t\ns/a/x\\ny/\nD\np", "a\nb", ""}, course{"/y/=\nt\n/y/p\ns/a/x\\ny/\nD", "a", "1\n"})
}

func TestNextLine(t *testing.T) {
	wantLoud(t, course{"n", "a\nb\nc", "a\nb\nc\n"}, course{"n\nd", "a\nb\nc\nd", "a\nc\n"}, course{"n\nd", "a\nb\nc", "a\nc\n"}, course{"n\nn\n=", "a\nb\nc\nd", "a\nb\n3\nc\nd\n"},
		course{"ax\nn", "a\nb", "a\nx\nb\n"}, course{"ax\nn", "a", "a\nx\n"}, course{"ax\nay\nn\nd", "a\nb\nc", "a\nx\ny\nc\nx\ny\n"})
	wantQuiet(t, course{"n", "a\nb", ""}, course{"n\np", "a\nb\nc", "b\n"}, course{"ax\nn\np", "a\nb\nc", "x\nb\nx\n"}, course{"$!n\np", "a\nb\nc", "b\nc\n"})
	// The mark is off when a line is taken.
	wantQuiet(t, course{"s/a/b/\nn\nt\np", "a\nc", "c\n"}, course{"s/a/b/\nN\nt\np", "a\nc", "b\nc\n"}, course{"s/a/b/\nt\np", "a\nc", "c\n"})
}

func TestMoreLines(t *testing.T) {
	wantLoud(t, course{"N", "a", "a\n"}, course{"N", "a\n", "a\n"}, course{"N", "a\nb", "a\nb\n"}, course{"N\ns/\\n/+/", "a\nb\nc", "a+b\nc\n"}, course{"$!N\ns/\\n/+/", "a\nb\nc\n\n", "a+b\nc+\n"},
		course{"ax\nN", "a\nb", "x\na\nb\n"}, course{"ax\nN", "a", "a\nx\n"}, course{"N\nN\ns/\\n/+/g", "\n\n\n\n", "++\n\n"}, course{"N\n=", "a\nb\nc\nd", "2\na\nb\n4\nc\nd\n"})
	wantQuiet(t, course{"N", "a\nb", ""}, course{"N\np", "a", ""}, course{"N\np", "a\nb\nc", "a\nb\n"}, course{"ax\nN", "a", "x\n"}, course{":x\n$!N\n$!bx\np", "a\nb\nc", "a\nb\nc\n"})
}

func TestHolding(t *testing.T) {
	wantLoud(t, course{"g", "a\nb", "\n\n"}, course{"1h\ng", "a\nb", "a\na\n"}, course{"x", "a\nb\nc\n", "\na\nb\n"}, course{"x\nx", "a\nb", "a\nb\n"}, course{"G", "a\nb", "a\n\nb\n\n"},
		course{"H\ng", "a\nb", "\na\n\na\nb\n"}, course{"h\nG", "a", "a\na\n"}, course{"h\nH\ng", "a", "a\na\n"}, course{"1!G\nh\n$!d", "a\nb\nc", "c\nb\na\n"}, course{"H\n$!d\nx\ns/\\n/,/g", "a\nb\nc", ",a,b,c\n"})
	// What is held is not changed with the other space.
	wantLoud(t, course{"h\ns/a/b/\nG", "a", "b\na\n"}, course{"h\ny/a/b/\nx", "a", "a\n"}, course{"h\nG\nG\nx", "a", "a\n"}, course{"h\nN\nG", "a\nb", "a\nb\na\n"}, course{"N\nh\nD\n", "a\nb", "b\n"},
		course{"2{\nx\nN\nG\n}\nh", "a\nb\nc", "a\na\nc\nb\n"}, course{"N\nN\nh\ns/.*/x/\nG\nD", "a\nb\nc", "a\nb\nc\n"}, course{"H\nH\nx\nx\nG", "a", "a\n\na\na\n"})
}

func TestQuitting(t *testing.T) {
	wantLoud(t, course{"q", "a\nb", "a\n"}, course{"q", "", ""}, course{"2q", "a\nb\nc", "a\nb\n"}, course{"9q", "a\nb", "a\nb\n"}, course{"ax\nq\np", "a\nb", "a\nx\n"}, course{"$q\np", "a\nb", "a\na\nb\n"})
	wantQuiet(t, course{"q", "a\nb", ""}, course{"ax\nq", "a\nb", "x\n"}, course{"p\nq\np", "a\nb", "a\n"})
}

func TestTexts(t *testing.T) {
	wantLoud(t, course{"ax", "a\nb", "a\nx\nb\nx\n"}, course{"ix", "a\nb", "x\na\nx\nb\n"}, course{"cx", "a\nb", "x\nx\n"}, course{"a", "a", "a\n\n"}, course{"i", "a", "\na\n"}, course{"c", "a", "\n"},
		course{"ax\nay\niz", "a", "z\na\nx\ny\n"}, course{"ax\ncy\nip", "a", "y\nx\n"}, course{"a x\\n&/ ", "a", "a\n x\\n&/ \n"}, course{"2,3cx", "a\nb\nc\nd", "a\nx\nx\nd\n"}, course{"2!cx", "a\nb\nc", "x\nb\nx\n"}, course{"$cx", "a\nb", "a\nx\n"}, course{"ap\nip\nbp\n:p", "a", "p\na\np\n"})
	wantQuiet(t, course{"ax", "a\nb", "x\nx\n"}, course{"ix\nay", "a\nb", "x\ny\nx\ny\n"}, course{"cx\np", "a\nb", "x\nx\n"})
}

func TestBranches(t *testing.T) {
	wantLoud(t, course{"bz\np\n:z", "a", "a\n"}, course{"b\np", "a", "a\n"}, course{"1bz\np\n:z", "a\nb", "a\nb\nb\n"}, course{":x\ns/a/b/\ntx\np", "aaa", "bbb\nbbb\n"}, course{"s/a/b/\nt\np", "a\nc", "b\nc\nc\n"},
		course{"s/a/a/\ntx\np\n:x\nt\n=", "a\nc", "1\na\nc\n2\nc\n"}, course{"{\nbx\n}\np\n:x\n=", "a", "1\na\n"}, course{"2bx\n{\n:x\n=\n}", "a\nb", "1\na\n2\nb\n"}, course{"by\n:x\n=\nb\n:y\np\nbx", "a", "a\n1\na\n"})
	// Behind `t` the mark is off; where nothing was replaced it stays off; a `t` that is not selected leaves it.
	wantQuiet(t, course{"s/a/b/\ntx\n:x\ntx\np", "a", "b\n"}, course{"s/x/b/\nt\np", "a", "a\n"}, course{"s/a/b/2\nt\np", "a", "a\n"}, course{"s/a/b/\n2t\nt\np", "a", ""}, course{"s/a/b/\ns/x/y/\nt\np", "a", ""}, course{"s/a/a/\nt\np", "a", ""})
}

func TestBlocks(t *testing.T) {
	wantQuiet(t, course{"1{\np\n}", "a\nb", "a\n"}, course{"1!{\np\n=\n}", "a\nb", "b\n2\n"}, course{"{\n{\np\n}\n}\np", "a", "a\na\n"}, course{"2{\np\n}\n=", "a\nb", "1\nb\n2\n"},
		course{"/a/{\n/b/{\np\n}\n=\n}", "a\nab\nb", "1\nab\n2\n"}, course{"1,2{\n2,3{\np\n}\n}", "a\nb\nc", "b\n"}, course{"1{\n1!{\n=\n}\np\n}\n2{\n}", "a\nb", "a\n"}, course{"1{\nd\n}\np", "a\nb", "b\n"})
}

func TestOneAddress(t *testing.T) {
	wantQuiet(t, course{"1p", "a\nb\nc", "a\n"}, course{"3p", "a\nb\nc", "c\n"}, course{"4p", "a\nb\nc", ""}, course{"12p", strings.Repeat("\n", 11) + "x\ny\n", "x\n"}, course{"$p", "a\nb\nc\n", "c\n"}, course{"$p", "a\nb\nc\n\n", "\n"}, course{"$p", "a", "a\n"},
		course{"2!p", "a\nb\nc", "a\nc\n"}, course{"$!p", "a\nb\nc", "a\nb\n"}, course{"/b/p", "a\nb\ncb", "b\ncb\n"}, course{"/b/!p", "a\nb\ncb", "a\n"}, course{"/^$/p", "a\n\nb", "\n"}, course{"/b$/p", "ba\nab", "ab\n"})
	// The pattern space as it is, and the line that was taken last.
	wantQuiet(t, course{"N\n/a\\nb/p", "a\nb", "a\nb\n"}, course{"N\n2p", "a\nb", "a\nb\n"}, course{"N\n1p", "a\nb", ""}, course{"N\n$p", "a\nb", "a\nb\n"}, course{"s/a/b/\n/a/p\n/b/p", "a", "b\n"}, course{"x\n/a/p", "a\nb", "a\n"}, course{"n\n$p\n2=", "a\nb", "b\n2\n"})
	wantLoud(t, course{strings.Repeat("n\n", 9) + "10d", "a\nb\nc\nd\ne\nf\ng\nh\ni\nj\nk", "a\nb\nc\nd\ne\nf\ng\nh\ni\nk\n"})
	lines := strings.Repeat("\n", 4095)
	wantQuiet(t, course{"4095=", lines, "4095\n"}, course{"4096=", lines, ""}, course{"4096=", lines + "x", "4096\n"}, course{"$=", lines + "\n", "4096\n"}, course{"9999=", lines, ""})
}

func TestTwoAddresses(t *testing.T) {
	in := "a\nb\nc\nd\ne"
	wantQuiet(t, course{"2,4p", in, "b\nc\nd\n"}, course{"2,2p", in, "b\n"}, course{"2,1p", in, "b\n"}, course{"4,2p", in, "d\n"}, course{"1,5p", in, "a\nb\nc\nd\ne\n"}, course{"4,9p", in, "d\ne\n"}, course{"6,7p", in, ""},
		course{"2,4!p", in, "a\ne\n"}, course{"2,1!p", in, "a\nc\nd\ne\n"}, course{"2,$p", in, "b\nc\nd\ne\n"}, course{"$,1p", in, "e\n"}, course{"$,$p", in, "e\n"}, course{"$,/x/p", in, "e\n"}, course{"1,$!p", in, ""},
		course{"/b/,/d/p", in, "b\nc\nd\n"}, course{"/b/,4p", in, "b\nc\nd\n"}, course{"/b/,1p", in, "b\n"}, course{"/b/,2p", in, "b\n"}, course{"/b/,3p", in, "b\nc\n"}, course{"2,/d/p", in, "b\nc\nd\n"}, course{"/x/,/d/p", in, ""}, course{"/b/,/x/p", in, "b\nc\nd\ne\n"})
	// The second address is not asked where the range opens; a range may open again.
	wantQuiet(t, course{"/a/,/a/p", "a\nb\na\nb\na", "a\nb\na\na\n"}, course{"/a/,/b/p", "ab\nx\nb\ny\na\nz\n", "ab\nx\nb\na\nz\n"}, course{"/a/,2p", "a\nb\nc\na\nb\na", "a\nb\na\na\n"}, course{"1,/a/p", "a\nb\na\nc", "a\nb\na\n"}, course{"1,/a/!p", "a\nb\na\nc", "c\n"}, course{"/a/,/b/!p", "x\na\ny\nb\nz\na\n", "x\nz\n"})
	// A range that is not reached where it would close is closed by the line behind, which is still selected.
	wantQuiet(t, course{"n\n2,3p", "a\nb\nc\nd\ne\nf", "b\nd\n"}, course{"n\n2,4p", "a\nb\nc\nd\ne\nf\ng\nh", "b\nd\n"}, course{"2,3{\n2n\np\n}", "a\nb\nc\nd\ne", "c\nd\n"})
}

// Which matches there are, and which of them are replaced.
func TestSubstituting(t *testing.T) {
	wantLoud(t, course{"s/a/b/", "aaa", "baa\n"}, course{"s/a/b/g", "aaa", "bbb\n"}, course{"s/a/b/1", "aaa", "baa\n"}, course{"s/a/b/2", "aaa", "aba\n"}, course{"s/a/b/3", "aaa", "aab\n"}, course{"s/a/b/4", "aaa", "aaa\n"}, course{"s/a/b/2g", "aaa", "abb\n"}, course{"s/a/b/1g", "aaa", "bbb\n"}, course{"s/a/b/3g", "aaa", "aab\n"}, course{"s/a/b/4g", "aaa", "aaa\n"}, course{"s/a/b/9", "aaaaaaaaaa", "aaaaaaaaba\n"}, course{"s/x/b/g", "aaa", "aaa\n"}, course{"s/a/b/", "", ""}, course{"s/a/b/", "\n", "\n"},
		course{"s/ab//g", "xabyabz", "xyz\n"}, course{"s/aa/b/g", "aaaaa", "bba\n"}, course{"s/aba/x/g", "ababa", "xba\n"}, course{"s/a*b/x/g", "aabab", "xx\n"}, course{"s/.*/x/g", "ab", "x\n"}, course{"s/./x/g", "ab", "xx\n"})
	// None that is empty begins where the one before ends.
	wantLoud(t, course{"s/x*/-/g", "abc", "-a-b-c-\n"}, course{"s/x*/-/", "abc", "-abc\n"}, course{"s/x*/-/2", "abc", "a-bc\n"}, course{"s/x*/-/4", "abc", "abc-\n"}, course{"s/x*/-/5", "abc", "abc\n"}, course{"s/a*/x/g", "baaac", "xbxcx\n"}, course{"s/a*/x/2", "baaac", "bxc\n"}, course{"s/a*/x/3", "baaac", "baaacx\n"}, course{"s/a*/x/g", "aab", "xbx\n"}, course{"s/a*/x/g", "baa", "xbx\n"}, course{"s/a*/x/g", "aa", "x\n"}, course{"s/a*/x/g", "\n", "x\n"}, course{"s/a*b*/x/g", "abcab", "xcx\n"}, course{"s/a*b*/x/g", "abccab", "xcxcx\n"}, course{"s/b*/x/2", "abb", "ax\n"}, course{"s/b*/x/3", "abb", "abb\n"})
	wantLoud(t, course{"s/^/x/g", "ab", "xab\n"}, course{"s/^/x/2", "ab", "ab\n"}, course{"s/$/x/g", "ab", "abx\n"}, course{"s/$/x/2", "ab", "ab\n"}, course{"s/^$/x/g", "\na", "x\na\n"}, course{"s/^a/b/g", "aaa", "baa\n"}, course{"s/^a*/b/g", "aac", "bc\n"}, course{"s/a$/b/g", "aaa", "aab\n"}, course{"s/a*$/b/g", "caa", "cb\n"}, course{"s/a*$/b/2", "caa", "caa\n"}, course{"N\ns/^/x/g\ns/$/y/g", "a\nb", "xa\nby\n"}, course{"N\ns/$/y/\ns/.$/z/", "a\nb", "a\nbz\n"})
	wantLoud(t, course{"s/a/&&/", "a", "aa\n"}, course{"s/./<&>/g", "ab", "<a><b>\n"}, course{"s/b*/<&>/g", "abbc", "<>a<bb>c<>\n"}, course{"s/a/\\&/", "a", "&\n"}, course{"s/a/\\\\\\//", "a", "\\/\n"}, course{"s/a/\\n/", "xay", "x\ny\n"}, course{"s/a/n\\x/", "a", "nx\n"}, course{"s/ab*/&c&/2", "abab", "ababcab\n"}, course{"s/a//", "a", "\n"}, course{"s/.*/&/g", "ab", "ab\n"})
	wantLoud(t, course{"s/a/b/p", "a\nc", "b\nb\nc\n"}, course{"s/a/a/gp", "aa", "aa\naa\n"}, course{"s/a/b/2p", "a", "a\n"})
	wantQuiet(t, course{"s/a/b/p", "a\nc", "b\n"}, course{"s/a/b/2gp", "aaa", "abb\n"}, course{"s/a/b/", "a", ""}, course{"N\ns/\\n/&&/p", "a\nb", "a\n\nb\n"})
}

func TestExchanging(t *testing.T) {
	wantLoud(t, course{"y/a/b/", "aab", "bbb\n"}, course{"y/abc/bca/", "aabbccd", "bbccaad\n"}, course{"y/ab/ba/", "abx", "bax\n"}, course{"y/x/y/", "abc", "abc\n"}, course{"y/a/a/", "aba", "aba\n"}, course{"y/ab/cc/", "abab", "cccc\n"}, course{"y/a/b/", "\n", "\n"},
		course{"y/a\\/\\\\/x\\n\\//", "a/\\b", "x\n/b\n"}, course{"N\ny/\\n/,/", "a\nb", "a,b\n"}, course{"y/,/\\n/\nP\nD", "a,b,c", "a\nb\nc\n"}, course{"y/\xff\x00/\x00\xff/", "\xff\x00a", "\x00\xffa\n"})
}

func TestMatchesOfAllShortExpressions(t *testing.T) {
	choice := partChoice()
	var all []whole
	for k := range 4 {
		w := whole{start: k%2 == 1, end: k/2 == 1}
		if k > 0 {
			all = append(all, w)
		}
		for _, first := range choice {
			w.parts = []part{first}
			all = append(all, w)
			for _, second := range choice {
				w.parts = []part{first, second}
				all = append(all, w)
			}
		}
	}
	for _, w := range all {
		for _, s := range words("ab\n", 4) {
			wantMatches(t, w, s)
		}
	}
}

// wantMatches: with each digit just that match is replaced.
func wantMatches(t *testing.T, w whole, s string) {
	t.Helper()
	l := w.matchesIn(s)
	// The newlines of the text would cut it into lines: they go in as other bytes.
	in := strings.ReplaceAll(s, "\n", "N") + "\n"
	script := "y/N/\\n/\ns/" + w.text() + "/<&>/"
	for k := 1; k <= len(l)+1; k++ {
		want := s
		if k <= len(l) {
			m := l[k-1]
			want = s[:m.i] + "<" + s[m.i:m.j] + ">" + s[m.j:]
		}
		wantOut(t, script+string(rune('0'+k)), false, in, want+"\n")
	}
}
