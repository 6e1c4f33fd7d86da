package run

// What asking for the next line can come to.
const (
	ready  = 1
	notYet = 2
	noLine = 3
)

// input is what was fed so far.
type input struct {
	text    string
	closed  bool
	behind  int // the place behind the line that was taken last
	newline int // the place of that line's newline, or nowhere
}

// ask tells whether the next line can be taken. Before the input is closed a byte must stand behind the line: else nobody could tell whether it is the last one.
func (in *input) ask() int {
	end := in.lineEnd()
	if !in.closed && len(in.text)-end < 2 {
		return notYet
	}
	if in.behind >= len(in.text) {
		return noLine
	}
	return ready
}

// lineEnd answers the place of the next line's newline, or the end of what is there.
func (in *input) lineEnd() int {
	end := in.behind
	for end < len(in.text) && in.text[end] != '\n' {
		end++
	}
	return end
}

// take answers the text of the next line.
func (in *input) take() []cell {
	end := in.lineEnd()
	var line []cell
	for i := in.behind; i < end; i++ {
		line = append(line, cell{value: in.text[i], origin: i})
	}
	in.newline = nowhere
	in.behind = end
	if end < len(in.text) {
		in.newline = end
		in.behind = end + 1
	}
	return line
}

// atLast tells whether the line that was taken last is the last one: it is taken only when that is certain.
func (in *input) atLast() bool { return in.behind >= len(in.text) }
