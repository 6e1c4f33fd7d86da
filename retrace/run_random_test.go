package retrace_test

import (
	"math/rand/v2"
	"slices"
	"strings"
	"testing"

	"retrace/api"
	"retrace/retrace"
)

// setting: a run but for its input.
type setting struct {
	acts        []act
	quiet       bool
	steps, room int
}

// wantAsPlayed: what each piece, and the end, put out is what the model's runs over so much of the input put out more.
func wantAsPlayed(t *testing.T, s setting, pieces []string) stop {
	t.Helper()
	script := scriptOf(s.acts)
	x := opened(t, script, s.quiet, s.steps, s.room)
	input, before := "", ""
	var ended stop
	for _, piece := range pieces {
		died := ended.e != api.OK
		want, wantE := "", ended.e
		if !died {
			input += piece
			p, now := played(s.acts, s.quiet, s.steps, s.room, input, false)
			want, wantE = strings.TrimPrefix(bytesOf(p.out), before), now.e
			before, ended = bytesOf(p.out), now
		}
		got, e := x.Feed(piece)
		if got != want || e != wantE {
			t.Errorf("P12 to P15: %q (%t, %d, %d) fed with %q of %q = %q, %d, want %q, %d", script, s.quiet, s.steps, s.room, piece, pieces, got, e, want, wantE)
			return ended
		}
	}
	want, wantJ, wantE := "", "", ended.e
	if ended.e == api.OK {
		p, now := played(s.acts, s.quiet, s.steps, s.room, input, true)
		want, wantE, ended = strings.TrimPrefix(bytesOf(p.out), before), now.e, now
		if now.e == api.OK {
			wantJ = p.journal(input)
		}
	}
	got, j, e := x.Close()
	if got != want || j != wantJ || e != wantE {
		l, _ := retrace.Read(j)
		wantL, _ := retrace.Read(wantJ)
		t.Errorf("P12 to P16: %q (%t, %d, %d) closed behind %q = %q, %v, %d, want %q, %v, %d", script, s.quiet, s.steps, s.room, pieces, got, l, e, want, wantL, wantE)
	}
	return ended
}

// source makes scripts and inputs; the same ones each time.
type source struct{ *rand.Rand }

func newSource(seed uint64) source { return source{rand.New(rand.NewPCG(seed, 16))} }

func (r source) one(n int) bool { return r.IntN(n) == 0 }

func (r source) byteOf(s string) byte { return s[r.IntN(len(s))] }

func (r source) stringOf(letters string, most int) string {
	s := ""
	for range r.IntN(most + 1) {
		s += string([]byte{r.byteOf(letters)})
	}
	return s
}

func (r source) expression() whole {
	choice := partChoice()
	for {
		w := whole{start: r.one(5), end: r.one(5)}
		for range r.IntN(3) {
			w.parts = append(w.parts, choice[r.IntN(len(choice))])
		}
		if w.text() != "" {
			return w
		}
	}
}

func (r source) where() where {
	switch r.IntN(5) {
	case 0, 1:
		return lineAt(1 + r.IntN(5))
	case 2:
		return lastLine()
	}
	return matching(r.expression())
}

func (r source) substitution() act {
	var with []string
	for range r.IntN(3) {
		with = append(with, []string{"&", "\\n", "a", "b", "x", "\\&", "\\\\"}[r.IntN(7)])
	}
	count := 0
	if r.one(3) {
		count = 1 + r.IntN(3)
	}
	return substitution(r.expression(), with, count, r.one(2), r.one(5))
}

func (r source) exchange() act {
	from := []byte("ab\n/\\")
	r.Shuffle(len(from), func(i, k int) { from[i], from[k] = from[k], from[i] })
	from = from[:1+r.IntN(3)]
	to := ""
	for range from {
		to += string([]byte{r.byteOf("abx\n/\\")})
	}
	return exchange(string(from), to)
}

func (r source) act() act {
	var a act
	switch r.IntN(8) {
	case 0, 1:
		a = r.substitution()
	case 2:
		a = r.exchange()
	case 3:
		a = plain(r.byteOf("aic"), r.stringOf("xa", 2))
	case 4:
		a = plain(r.byteOf("bt"), "")
	default:
		a = plain(r.byteOf("pdDPnNNhHgGGxq==DD"), "")
	}
	return r.addressed(a)
}

func (r source) addressed(a act) act {
	for range r.IntN(3) {
		a.at = append(a.at, r.where())
	}
	a.not = len(a.at) > 0 && r.one(3)
	return a
}

// acts: commands with brackets around some of them, and labels to which some lead.
func (r source) acts(most int) []act {
	var l []act
	for range r.IntN(most + 1) {
		l = append(l, r.act())
	}
	for range r.IntN(3) {
		from := r.IntN(len(l) + 1)
		to := from + r.IntN(len(l)+1-from)
		if !bracketsPair(l[from:to]) {
			continue
		}
		l = slices.Insert(l, to, plain('}', ""))
		l = slices.Insert(l, from, r.addressed(plain('{', "")))
	}
	for _, label := range []string{"", "x", "yx"}[r.IntN(3)] {
		l = slices.Insert(l, r.IntN(len(l)+1), plain(':', string(label)))
		for i := range l {
			if (l[i].name == 'b' || l[i].name == 't') && r.one(2) {
				l[i].rest = string(label)
			}
		}
	}
	return l
}

func bracketsPair(l []act) bool {
	depth := 0
	for _, a := range l {
		switch a.name {
		case '{':
			depth++
		case '}':
			depth--
		}
		if depth < 0 {
			return false
		}
	}
	return depth == 0
}

func (r source) setting(most int) setting {
	steps := []int{5000, 5000, 200, 50, 20, 10, 3, 1, 0}
	rooms := []int{256, 256, 256, 20, 8, 5, 3, 1}
	for {
		s := setting{acts: r.acts(most), quiet: r.one(2), steps: steps[r.IntN(len(steps))], room: rooms[r.IntN(len(rooms))]}
		// The model tries every way to match: a loop that fills the room would keep it for long.
		if s.steps > 200 && s.room > 20 && r.one(2) {
			s.room = 20
		}
		if len(scriptOf(s.acts)) <= 400 {
			return s
		}
	}
}

// pieces: a text, cut anywhere; some pieces are empty.
func (r source) pieces(s string) []string {
	var l []string
	for s != "" || r.one(4) {
		n := r.IntN(len(s) + 1)
		l = append(l, s[:n])
		s = s[n:]
	}
	return l
}

func TestRunsGoAsTheModels(t *testing.T) {
	r := newSource(13)
	count := make([]int, 10)
	for range 30000 {
		s := r.setting(1 + r.IntN(7))
		input := r.stringOf("aabbc\n\n\n", 14)
		ended := wantAsPlayed(t, s, r.pieces(input))
		count[ended.e]++
		if t.Failed() {
			return
		}
	}
	if count[api.OK] < 1000 || count[api.ErrSteps] < 1000 || count[api.ErrRoom] < 1000 {
		t.Errorf("how the runs ended: %v", count)
	}
}

// Lines in such numbers that what is put out comes to its end.
func TestLongRunsGoAsTheModels(t *testing.T) {
	r := newSource(15)
	count := make([]int, 10)
	for range 150 {
		s := r.setting(3)
		s.steps, s.room, s.quiet = 5000, 20, false
		s.acts = append(s.acts, plain("pi="[r.IntN(3)], ""))
		if s.acts[len(s.acts)-1].name == 'i' {
			s.acts[len(s.acts)-1].rest = strings.Repeat("i", r.IntN(80))
		}
		input := ""
		for len(input) < 2000+r.IntN(2000) {
			input += r.stringOf("abc", 9) + "\n"
		}
		ended := wantAsPlayed(t, s, []string{input[:1000], input[1000:]})
		count[ended.e]++
		if t.Failed() {
			return
		}
	}
	if count[api.OK] < 10 || count[api.ErrOut] < 10 {
		t.Errorf("how the runs ended: %v", count)
	}
}

// Every script of up to two commands of a choice, with each address, over every short input.
func TestAllShortScriptsGoAsTheModels(t *testing.T) {
	a := whole{parts: []part{{text: "a", has: "a"}}}
	some := whole{parts: []part{{text: "a", has: "a", many: true}}}
	end := whole{start: true, end: true}
	gap := whole{parts: []part{{text: "\\n", has: "\n"}}}
	var plains []act
	for _, name := range []byte("pdDPnNhHgGxq=") {
		plains = append(plains, plain(name, ""))
	}
	plains = append(plains, plain('a', "x"), plain('i', ""), plain('c', "y"), exchange("a\n", "\na"), plain('t', ""), plain('b', ""),
		substitution(a, []string{"b"}, 0, false, false), substitution(some, []string{"x", "&"}, 0, true, false), substitution(gap, []string{"&", "&"}, 0, false, true), substitution(some, nil, 2, true, true))
	places := [][]where{nil, {lineAt(1)}, {lastLine()}, {matching(a)}, {lineAt(2), lineAt(1)}, {lineAt(1), lineAt(2)}, {matching(a), matching(end)}, {lineAt(2), lastLine()}}
	inputs := []string{"", "a", "\n", "a\n", "a\nb", "\n\n\n", "a\nb\na\n", "b\na\n\na", "a\na\nb\n\nab\n"}
	for _, first := range plains {
		for _, at := range places {
			for _, not := range []bool{false, true} {
				if not && at == nil {
					continue
				}
				first.at, first.not = at, not
				for _, second := range plains {
					for _, input := range inputs {
						wantAsPlayed(t, setting{[]act{first, second}, len(input)%2 == 0, 5000, 256}, []string{input})
						if t.Failed() {
							return
						}
					}
				}
			}
		}
	}
}
