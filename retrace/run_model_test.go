package retrace_test

import (
	"slices"
	"strconv"
	"strings"

	"retrace/api"
)

// where: an address, as it is written and as what it says.
type where struct {
	text string
	line int
	last bool
	re   *whole
}

func lineAt(n int) where     { return where{text: strconv.Itoa(n), line: n} }
func lastLine() where        { return where{text: "$", last: true} }
func matching(w whole) where { return where{text: "/" + w.text() + "/", re: &w} }

// act: a command, as it is written and as what it says.
type act struct {
	at   []where
	not  bool
	name byte
	rest string // what is written behind the name

	re         whole    // of `s`
	with       []string // the parts of its replacement, as they are written
	count      int
	all, print bool
	from, to   string // of `y`
}

func (a act) text() string {
	s := ""
	for i, w := range a.at {
		if i > 0 {
			s += ","
		}
		s += w.text
	}
	if a.not {
		s += "!"
	}
	return s + string(a.name) + a.rest
}

func scriptOf(l []act) string {
	var lines []string
	for _, a := range l {
		lines = append(lines, a.text())
	}
	return strings.Join(lines, "\n")
}

func plain(name byte, rest string) act { return act{name: name, rest: rest} }

func substitution(re whole, with []string, count int, all, print bool) act {
	a := act{name: 's', re: re, with: with, count: max(count, 1), all: all, print: print}
	a.rest = "/" + re.text() + "/" + strings.Join(with, "") + "/"
	if count > 0 {
		a.rest += strconv.Itoa(count)
	}
	if all {
		a.rest += "g"
	}
	if print {
		a.rest += "p"
	}
	return a
}

func exchange(from, to string) act {
	written := strings.NewReplacer("\n", "\\n", "/", "\\/", "\\", "\\\\")
	return act{name: 'y', rest: "/" + written.Replace(from) + "/" + written.Replace(to) + "/", from: from, to: to}
}

// traced: a byte, and the place of the input from which it comes, or none.
type traced struct {
	c    byte
	from int
}

func untraced(s string) []traced {
	var l []traced
	for _, c := range []byte(s) {
		l = append(l, traced{c, none})
	}
	return l
}

func bytesOf(l []traced) string {
	s := ""
	for _, c := range l {
		s += string([]byte{c.c})
	}
	return s
}

func isNewline(c traced) bool { return c.c == '\n' }

// player plays a run from its beginning, over an input that is there as a whole. It stops by a panic: so each command can be told as the document tells it.
type player struct {
	acts        []act
	quiet       bool
	steps, room int
	lines       []string // those that are ready, with their newlines
	closed      bool

	place         int // of the input: behind the lines that were taken
	taken         int
	pattern, hold []traced
	open          []bool
	queue         []string
	mark          bool
	reached       int
	out           []traced
}

// stop: why a player stops.
type stop struct {
	e     api.Errno
	waits bool
}

// played: what the run has come to when this much of its input is there.
func played(acts []act, quiet bool, steps, room int, input string, closed bool) (*player, stop) {
	p := &player{acts: acts, quiet: quiet, steps: steps, room: room, closed: closed, open: make([]bool, len(acts))}
	p.lines = strings.SplitAfter(input, "\n")
	if p.lines[len(p.lines)-1] == "" {
		p.lines = p.lines[:len(p.lines)-1]
	}
	if !closed && len(p.lines) > 0 {
		p.lines = p.lines[:len(p.lines)-1]
	}
	return p, p.play()
}

func (p *player) play() (s stop) {
	defer func() { s = recover().(stop) }()
	for {
		if !p.ask() {
			panic(stop{})
		}
		p.pattern = p.fitting(p.take())
		for !p.commands() {
		}
	}
}

func (p *player) ask() bool {
	if p.taken == len(p.lines) && !p.closed {
		panic(stop{waits: true})
	}
	return p.taken < len(p.lines)
}

func (p *player) take() []traced {
	var l []traced
	line := p.lines[p.taken]
	for i, c := range []byte(strings.TrimSuffix(line, "\n")) {
		l = append(l, traced{c, p.place + i})
	}
	p.place += len(line)
	p.taken++
	p.mark = false
	return l
}

func (p *player) fitting(l []traced) []traced {
	if len(l) > p.room {
		panic(stop{e: api.ErrRoom})
	}
	return l
}

func (p *player) put(l []traced) {
	if len(p.out)+len(l) > 4096 {
		panic(stop{e: api.ErrOut})
	}
	p.out = append(p.out, l...)
}

func (p *player) putText(s string) { p.put(untraced(s + "\n")) }

func (p *player) putPattern() {
	end := traced{'\n', none}
	if strings.HasSuffix(p.lines[p.taken-1], "\n") {
		end.from = p.place - 1
	}
	p.put(slices.Concat(p.pattern, []traced{end}))
}

func (p *player) putUnlessQuiet() {
	if !p.quiet {
		p.putPattern()
	}
}

func (p *player) putQueue() {
	for _, s := range p.queue {
		p.putText(s)
	}
	p.queue = nil
}

func (p *player) endEarly() {
	p.putUnlessQuiet()
	p.putQueue()
	panic(stop{})
}

// commands: step 2, and 3 if it answers true; else step 2 is to begin anew.
func (p *player) commands() bool {
	for i := 0; i < len(p.acts); {
		if p.reached == p.steps {
			panic(stop{e: api.ErrSteps})
		}
		p.reached++
		a := p.acts[i]
		next := i + 1
		if p.selected(i) {
			switch a.name {
			case 'd':
				p.putQueue()
				return true
			case 'c':
				p.putText(a.rest)
				p.putQueue()
				return true
			case 'D':
				k := slices.IndexFunc(p.pattern, isNewline)
				p.pattern = p.pattern[k+1:]
				p.putQueue()
				return k < 0
			case 'b':
				next = p.behindLabel(a.rest)
			case 't':
				if p.mark {
					next = p.behindLabel(a.rest)
				}
				p.mark = false
			default:
				p.act(a)
			}
		} else if a.name == '{' {
			next = p.behindBracket(i)
		}
		i = next
	}
	p.putUnlessQuiet()
	p.putQueue()
	return true
}

func (p *player) behindLabel(label string) int {
	for i, a := range p.acts {
		if label != "" && a.name == ':' && a.rest == label {
			return i + 1
		}
	}
	return len(p.acts)
}

func (p *player) behindBracket(i int) int {
	for depth := 0; ; i++ {
		switch p.acts[i].name {
		case '{':
			depth++
		case '}':
			depth--
		}
		if depth == 0 {
			return i + 1
		}
	}
}

func (p *player) selected(i int) bool {
	a := p.acts[i]
	switch len(a.at) {
	case 0:
		return true
	case 1:
		return p.holds(a.at[0]) != a.not
	}
	begin, end := a.at[0], a.at[1]
	numbered := end.line > 0
	if p.open[i] {
		if p.holds(end) || numbered && end.line < p.taken {
			p.open[i] = false
		}
		return !a.not
	}
	if !p.holds(begin) {
		return a.not
	}
	p.open[i] = true
	if numbered && end.line <= p.taken {
		p.open[i] = false
	}
	return !a.not
}

func (p *player) holds(w where) bool {
	switch {
	case w.last:
		return p.closed && p.taken == len(p.lines)
	case w.re != nil:
		i, _ := w.re.find(bytesOf(p.pattern), 0)
		return i >= 0
	}
	return w.line == p.taken
}

func (p *player) act(a act) {
	between := untraced("\n")
	switch a.name {
	case 'p':
		p.putPattern()
	case 'P':
		if k := slices.IndexFunc(p.pattern, isNewline); k >= 0 {
			p.put(p.pattern[:k+1])
		} else {
			p.putPattern()
		}
	case '=':
		p.putText(strconv.Itoa(p.taken))
	case 'n':
		if !p.ask() {
			p.endEarly()
		}
		p.putUnlessQuiet()
		p.putQueue()
		p.pattern = p.fitting(p.take())
	case 'N':
		if !p.ask() {
			p.endEarly()
		}
		p.putQueue()
		ahead := []traced{{'\n', p.place - 1}}
		p.pattern = p.fitting(slices.Concat(p.pattern, ahead, p.take()))
	case 'h':
		p.hold = p.pattern
	case 'g':
		p.pattern = p.hold
	case 'x':
		p.pattern, p.hold = p.hold, p.pattern
	case 'H':
		p.hold = p.fitting(slices.Concat(p.hold, between, p.pattern))
	case 'G':
		p.pattern = p.fitting(slices.Concat(p.pattern, between, p.hold))
	case 'q':
		p.endEarly()
	case 'a':
		p.queue = append(p.queue, a.rest)
	case 'i':
		p.putText(a.rest)
	case 's':
		p.substitute(a)
	case 'y':
		l := slices.Clone(p.pattern)
		for i, c := range l {
			if k := strings.IndexByte(a.from, c.c); k >= 0 {
				l[i] = traced{a.to[k], none}
			}
		}
		p.pattern = l
	}
}

// span: a match.
type span struct{ i, j int }

// matchesIn: the matches of `s`, each chosen among all that may come next.
func (w whole) matchesIn(s string) []span {
	var l []span
	i, j := w.find(s, 0)
	for i >= 0 {
		l = append(l, span{i, j})
		i, j = w.behind(s, j)
	}
	return l
}

// behind: the match that comes next behind one that ends at a place.
func (w whole) behind(s string, end int) (int, int) {
	for i := end; i <= len(s); i++ {
		for j := len(s); j >= i; j-- {
			if w.matches(s, i, j) && !(i == j && i == end) {
				return i, j
			}
		}
	}
	return none, none
}

func (p *player) substitute(a act) {
	l := a.re.matchesIn(bytesOf(p.pattern))
	if len(l) < a.count {
		return
	}
	l = l[a.count-1:]
	if !a.all {
		l = l[:1]
	}
	result := slices.Clone(p.pattern)
	// From the last match on, so that the places of the earlier ones stay.
	for _, m := range slices.Backward(l) {
		result = slices.Concat(result[:m.i], a.replacement(result[m.i:m.j]), result[m.j:])
	}
	p.pattern = p.fitting(result)
	p.mark = true
	if a.print {
		p.putPattern()
	}
}

func (a act) replacement(matched []traced) []traced {
	var l []traced
	for _, s := range a.with {
		switch {
		case s == "&":
			l = append(l, matched...)
		case s == "\\n":
			l = append(l, untraced("\n")...)
		default:
			l = append(l, untraced(s[len(s)-1:])...)
		}
	}
	return l
}

// journal: that of P16, of a run that has ended.
func (p *player) journal(input string) string {
	var l []api.Record
	place := 0
	for _, c := range p.out {
		if c.from == none || c.from < place {
			l = append(l, drop(1))
			continue
		}
		if c.from > place {
			l = append(l, restore(input[place:c.from]))
		}
		l = append(l, keep(1))
		place = c.from + 1
	}
	if place < len(input) {
		l = append(l, restore(input[place:]))
	}
	return journalOf(modelOf(l).short(), input, bytesOf(p.out))
}
