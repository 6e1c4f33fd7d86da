package retrace_test

import (
	"strings"
	"testing"

	"retrace/api"
	"retrace/retrace"
)

func wantCheck(t *testing.T, script string, n int, e api.Errno) {
	t.Helper()
	gotN, gotE := retrace.Check(script)
	if gotN != n || gotE != e {
		t.Errorf("P10: Check(%q) = %d, %d, want %d, %d", clip(script), gotN, gotE, n, e)
	}
}

func wantScripts(t *testing.T, n int, scripts ...string) {
	t.Helper()
	for _, s := range scripts {
		wantCheck(t, s, n, api.OK)
	}
}

// wantNoScripts: each of them is none, whatever right lines stand around it.
func wantNoScripts(t *testing.T, scripts ...string) {
	t.Helper()
	for _, s := range scripts {
		for _, around := range []string{s, s + "\n", "\n" + s, "p\n" + s, s + "\np", ":k\n{\n" + s + "\n}\nbk"} {
			wantCheck(t, around, 0, api.ErrScript)
		}
	}
}

func TestCheckCountsCommands(t *testing.T) {
	wantScripts(t, 0, "", "\n", "\n\n", "\n\n\n\n")
	wantScripts(t, 1, "p", "p\n", "\np", "\n\np\n\n", "a", "a\n")
	wantScripts(t, 2, "s/a/b/g\n\n$!d", "p\np", "p\n\n\np\n", "{\n}", ":a\nba", "a\na", "i\\\np")
	wantScripts(t, 3, "p\nd\nq", "{\np\n}", "{\n\n}\nx")
	wantScripts(t, 13, "p\nd\nD\nP\nn\nN\nh\nH\ng\nG\nx\nq\n=")
}

func TestCheckRefusesTheDocumentsExamples(t *testing.T) {
	for _, s := range []string{"s/a/b", "}", "bx"} {
		wantCheck(t, s, 0, api.ErrScript)
	}
}

func TestCheckAtMaxScript(t *testing.T) {
	wantScripts(t, 1, "a"+strings.Repeat("x", 399), strings.Repeat("\n", 399)+"p", "s/a/"+strings.Repeat("b", 395)+"/", "/"+strings.Repeat("a", 397)+"/p", "s/"+strings.Repeat("b*", 197)+"b//")
	wantScripts(t, 0, strings.Repeat("\n", 400))
	wantScripts(t, 200, strings.Repeat("p\n", 200), strings.Repeat("{\n", 100)+strings.Repeat("}\n", 100), strings.Repeat("{\n}\n", 100))
	for _, s := range []string{"a" + strings.Repeat("x", 400), strings.Repeat("\n", 401), strings.Repeat("p\n", 200) + "p", strings.Repeat("}", 401), strings.Repeat("x", 100000), "s/a/" + strings.Repeat("b", 396) + "/"} {
		wantCheck(t, s, 0, api.ErrLong)
	}
	for _, s := range []string{strings.Repeat("}", 400), strings.Repeat("{\n", 200), strings.Repeat("}\n", 200), strings.Repeat("1", 400), strings.Repeat("/", 400), strings.Repeat("p", 400)} {
		wantCheck(t, s, 0, api.ErrScript)
	}
}

// Each byte is a name just if the document names it; the short names first, then those that ask for more.
func TestCheckKnowsItsNames(t *testing.T) {
	for c := range 256 {
		name := string([]byte{byte(c)})
		switch {
		case name == "\n":
			wantCheck(t, name, 0, api.OK)
			wantNoScripts(t, "1"+name)
		case strings.Contains("pdDPnNhHgGxq=btaic", name):
			wantScripts(t, 1, name, "1"+name, "1,$"+name, "/a/!"+name)
			wantNoScripts(t, "!"+name, "1,"+name, "1 "+name)
		case name == "{":
			wantScripts(t, 2, "{\n}", "1{\n}", "1,$!{\n}")
			wantNoScripts(t, "!{\n}")
		default:
			wantNoScripts(t, name, "1"+name, "1,$"+name, "/a/!"+name)
		}
	}
}

func TestCheckTakesNothingBehindANameThatAsksForNothing(t *testing.T) {
	for _, name := range strings.Split("pdDPnNhHgGxq={}", "") {
		for c := range 256 {
			if behind := string([]byte{byte(c)}); behind != "\n" {
				wantNoScripts(t, name+behind+"\n}", "{\n"+name+behind, name+behind)
			}
		}
		wantNoScripts(t, " "+name, "\t"+name, name+" ", name+"\r", name+";", name+"#")
	}
}

func TestCheckReadsAddresses(t *testing.T) {
	right := []string{"1", "9", "10", "99", "100", "999", "1000", "9999", "$", "/a/", "/\\//", "/^$/", "/[\\/]/", "/,/", "/!/", "/$/", "/1,2p/", "/[^a]*\\n/"}
	wrong := []string{"0", "00", "01", "0001", "10000", "12345", "99999", "-1", "+1", "1z", "z", "$$", "$1", "1$", "//", "z/", "/*/", "/[/]/", "/a/b/", "/a/I", "/a/g", "\\a", "1~2", " 1", "1 ", "", "!", ",", "/^^/", "/a$b/", "/[b-a]/"}
	for _, a := range right {
		wantScripts(t, 1, a+"p", a+"!p", a+"d", a+"a", a+"s/a/b/", a+"y/a/b/", a+"b")
		wantNoScripts(t, a, a+"!", a+"!!p", a+",p", a+",!p", ","+a+"p", a+"!,"+a+"p", a+" p", a+"! p", "!"+a+"p", a+"$p", a+"/a/p")
		for _, b := range right {
			wantScripts(t, 1, a+","+b+"p", a+","+b+"!p")
			wantNoScripts(t, a+","+b, a+",,"+b+"p", a+", "+b+"p", a+","+b+",1p", a+","+b+"!!p", a+"!,"+b+"!p", a+";"+b+"p", a+","+b+",p")
		}
		for _, b := range wrong {
			wantNoScripts(t, a+","+b+"p", b+","+a+"p")
		}
	}
	for _, a := range wrong {
		if a != "" {
			wantNoScripts(t, a+"p", a+"!p")
		}
	}
	wantNoScripts(t, "!p", "!", ",", "1,2", "/ap", "/a,1p", "/a\\/p", "/a\\/,1p", "1,/ap", "1,/a\\/p")
}

func TestCheckPairsBrackets(t *testing.T) {
	wantScripts(t, 2, "{\n}", "\n{\n\n}\n", "1,2!{\n}")
	wantScripts(t, 4, "{\n{\n}\n}", "{\n}\n{\n}", "{\np\nd\n}")
	wantScripts(t, 6, "{\n{\n}\n}\n{\n}", "{\n{\n}\n{\n}\n}", "{\n{\n{\n}\n}\n}")
	wantNoScripts(t, "{", "}", "{\n{\n}", "{\n}\n}", "{\n}\n{", "{}", "{p}", "{\np}", "{p\n}", "{\n1}", "{\n$}", "{\n/a/}", "{\n1,2}", "{\n1!}", "{\n!}", "{\n} ", "{ \n}", "{\n};")
	for _, s := range []string{"}\n{", "{\n}\n}\n{", "}\np\n{\n", "}\n{\n}\n{"} {
		wantCheck(t, s, 0, api.ErrScript)
	}
	for _, text := range []string{"a{", "i}", "c{", "s/{/}/", "s/}/{/", "y/{/}/", "/}/p", "/{/p"} {
		wantScripts(t, 1, text)
		wantScripts(t, 3, "{\n"+text+"\n}")
		wantNoScripts(t, "{\n"+text, text+"\n}")
	}
}

func TestCheckKnowsItsLabels(t *testing.T) {
	for c := range 256 {
		label := string([]byte{byte(c)})
		switch {
		case label == "\n":
			wantNoScripts(t, ":"+label)
			wantScripts(t, 1, "b"+label, "t"+label)
		case 'a' <= c && c <= 'z':
			wantScripts(t, 1, ":"+label)
			wantScripts(t, 2, ":"+label+"\nb"+label, "b"+label+"\n:"+label, ":"+label+"\nt"+label, "1,2!t"+label+"\n:"+label)
			wantScripts(t, 3, "b"+label+"\nt"+label+"\n:"+label)
			wantNoScripts(t, ":"+label+"\n:"+label, ":"+label+"\np\n:"+label+"\nb"+label, "1:"+label, "$!:"+label, "/a/:"+label, "1,2:"+label, ":"+label+" ", ": "+label, "b "+label+"\n:"+label, "b"+label+" \n:"+label, "b"+label+label+"\n:"+label, ":"+label+label)
			other := string([]byte{byte('a' + (c-'a'+1)%26)})
			wantScripts(t, 4, ":"+label+"\n:"+other+"\nb"+other+"\nt"+label)
			if label != "k" && other != "k" {
				wantNoScripts(t, "b"+label, "t"+label, ":"+other+"\nb"+label, "t"+label+"\n:"+other, "a:"+label+"\nb"+label, "b"+label+"\nb"+label)
			}
		default:
			wantNoScripts(t, ":"+label, "b"+label, "t"+label, ":"+label+"\nb"+label)
		}
	}
	wantScripts(t, 4, "{\n:z\n}\n1bz", "bz\n{\n:z\n}")
	wantScripts(t, 52, strings.Repeat("bz\n", 26)+":"+strings.Join(strings.Split("abcdefghijklmnopqrstuvwxyz", ""), "\n:"))
	wantNoScripts(t, ":", "1:", "b1", ":aa", "ba\n:b", "t;", ":a\nba;p")
}

func TestCheckTakesTheRestOfTheLineAsText(t *testing.T) {
	for _, name := range []string{"a", "i", "c"} {
		for c := range 256 {
			wantScripts(t, 1, strings.ReplaceAll(name+string([]byte{byte(c)}), "\n", ""))
		}
		wantScripts(t, 1, name, name+" b", name+"\\", name+"\\\n", name+"/", name+name, "1"+name+"}", "1,2!"+name+":x", name+"\r", name+"s/a/b")
		wantScripts(t, 2, name+"\\\np", name+"\n"+name, name+"b\n\np")
		wantNoScripts(t, "!"+name, " "+name, name+"\\\ntext")
	}
}

func TestCheckReadsSubstitutions(t *testing.T) {
	for _, re := range []string{"a", "^", "$", "^$", "\\/", "[\\/]", "a*b", ".", "\\n", "[^a-c]*$", "&", " ", "\\\\"} {
		for _, with := range []string{"", "b", "&", "&&", "\\&", "\\/", "\\\\", "\\n", "*[.^$]", "a b", "\\a", "]", "\xff\x00"} {
			for _, flags := range []string{"", "1", "9", "g", "p", "1g", "2p", "gp", "9gp"} {
				wantScripts(t, 1, "s/"+re+"/"+with+"/"+flags)
			}
		}
	}
	for _, s := range []string{"", "/", "//", "///", "/a", "/a/", "/a/b", "//b/", ",a,b,", "|a|b|", " /a/b/", "a/b/", "a/", "a/g", "&/p", "/a/b\\", "/a/b\\/", "/a\\/b/", "/a/\\/", "/[/]/b/", "/[/b/", "/*/b/", "/a**/b/", "/^^/b/", "/a/b/c/", "/a/b//", "\\/a/b/"} {
		wantNoScripts(t, "s"+s)
	}
	for _, flags := range []string{"0", "10", "12", "11", "g1", "p1", "pg", "gg", "pp", "1gg", "gp1", "1gpp", "G", "P", "i", "I", "w", "e", "m", " ", "g ", " g", "/", "}", ";", "\r", "-1"} {
		wantNoScripts(t, "s/a/b/"+flags)
	}
	wantScripts(t, 1, "/\\//s/[\\/]/-/", "1,$!s/a/b/2gp")
	wantNoScripts(t, "s/a/\n/", "s/a\n/b/", "s/a/b\\\nc/", "s/\\\n/b/", "s/a/b\n/")
}

func TestCheckTakesEachByteInAReplacement(t *testing.T) {
	for c := range 256 {
		s := string([]byte{byte(c)})
		if strings.Contains("\n\\/", s) {
			wantNoScripts(t, "s/a/b"+s+"/")
		} else {
			wantScripts(t, 1, "s/a/b"+s+"/", "s/a/"+s+"b/")
		}
		if s != "\n" {
			wantScripts(t, 1, "s/a/\\"+s+"/", "s/\\"+s+"/a/")
		}
	}
}

func TestCheckReadsExchanges(t *testing.T) {
	wantScripts(t, 1, "y/a/b/", "y/a/a/", "y/abc/bca/", "y/abc/xxx/", "y/\\//a/", "y/a/\\//", "y/\\n/a/", "y/a\\/\\n/bcd/", "y/\\\\/a/", "y/a/\\\\/", "y/n\\n/ab/", "y/&*/aa/", "y/[]^$./12345/", "y/\\a\\b/cd/", "y/ab/\\n\\n/", "1,2!y/a/b/", "y/ /-/", "y/!/,/")
	for _, s := range []string{"", "/", "//", "///", "////", "/a", "/a/", "/a/b", "//b/", "/a//", "a/b/", ",a,b,", " /a/b/", "/a/bc/", "/ab/c/", "/abc/de/", "/a/\\n\\n/", "/\\n/ab/", "/a/b/g", "/a/b/ ", "/a/b//", "/a/b/c/", "/a\\/b/", "/a/b\\/", "/a/b\\", "/a\\", "/a/\\"} {
		wantNoScripts(t, "y"+s)
	}
	// None stands twice, however it is written.
	wantNoScripts(t, "y/aa/bc/", "y/aba/cde/", "y/a\\a/bc/", "y/\\aa/bc/", "y/\\n\\n/ab/", "y/\\/\\//ab/", "y/\\\\\\\\/ab/", "y/\\nab\\n/cdef/", "y/aa/aa/")
	wantNoScripts(t, "y/a/\n/", "y/\n/a/", "y/a\\\n/bc/", "y/a/\\\n/")
}

func TestCheckTakesEachByteInAnExchange(t *testing.T) {
	all, back := "", ""
	for c := range 256 {
		s := string([]byte{byte(c)})
		if strings.Contains("\n\\/", s) {
			wantNoScripts(t, "y/"+s+"/-/", "y/-/"+s+"/")
		} else {
			wantScripts(t, 1, "y/"+s+"/-/", "y/-/"+s+"/")
			wantNoScripts(t, "y/"+s+s+"/12/", "y/-"+s+"_"+s+"/1234/")
		}
		if s != "\n" && s != "n" && s != "\\" && s != "/" {
			wantNoScripts(t, "y/"+s+"\\"+s+"/12/")
		}
		if s != "\n" {
			wantScripts(t, 1, "y/\\"+s+"/-/", "y/-/\\"+s+"/")
		}
		if c >= 128 {
			all, back = all+s, s+back
		}
	}
	wantScripts(t, 1, "y/"+all+"/"+back+"/")
	wantNoScripts(t, "y/"+all+"\x80/"+back+"a/", "y/"+all+"/"+back[1:]+"/")
}
