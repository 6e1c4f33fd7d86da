// Package retrace: a stream editor whose runs can be undone: see DOC.md.
package retrace

import (
	"retrace/api"
	"retrace/commands"
	"retrace/expression"
	"retrace/journal"
	"retrace/run"
)

// Editor is a run of a script that is under way.
type Editor struct {
	run    run.Run
	death  api.Errno // by what the run died, if it did
	closed bool
}

// Sum adds a text up (P3).
func Sum(s string) int { return journal.Sum(s) }

// Write writes the journal of some records (P4).
func Write(l []api.Record, a string, b string) (string, api.Errno) {
	if len(a) > api.MaxData || len(b) > api.MaxData {
		return "", api.ErrLong
	}
	if !journal.AreRecords(l) {
		return "", api.ErrArg
	}
	if !journal.Leads(l, a, b) {
		return "", api.ErrMatch
	}
	h := journal.HeadOf(a, b)
	return journal.Write(h, l), api.OK
}

// Read reads the records of a journal (P5).
func Read(j string) ([]api.Record, api.Errno) {
	if len(j) > api.MaxJournal {
		return nil, api.ErrLong
	}
	_, l, ok := journal.Read(j)
	if !ok {
		return nil, api.ErrJournal
	}
	return l, api.OK
}

// Undo gives the text back from which a journal leads (P6).
func Undo(b string, j string) (string, api.Errno) {
	if len(b) > api.MaxData || len(j) > api.MaxJournal {
		return "", api.ErrLong
	}
	h, l, ok := journal.Read(j)
	if !ok {
		return "", api.ErrJournal
	}
	if len(b) != h.LenB || journal.Sum(b) != h.SumB {
		return "", api.ErrMatch
	}
	a, fits := journal.Undo(l, b)
	if !fits || journal.Sum(a) != h.SumA {
		return "", api.ErrMatch
	}
	return a, api.OK
}

// Pack brings a journal to its short form (P7).
func Pack(j string) (string, api.Errno) {
	if len(j) > api.MaxJournal {
		return "", api.ErrLong
	}
	h, l, ok := journal.Read(j)
	if !ok {
		return "", api.ErrJournal
	}
	short := journal.Short(l)
	return journal.Write(h, short), api.OK
}

// Join makes one journal of two that lead on from one another (P8).
func Join(j string, k string) (string, api.Errno) {
	if len(j) > api.MaxJournal || len(k) > api.MaxJournal {
		return "", api.ErrLong
	}
	headJ, l, okJ := journal.Read(j)
	if !okJ {
		return "", api.ErrJournal
	}
	headK, m, okK := journal.Read(k)
	if !okK {
		return "", api.ErrJournal
	}
	if headJ.LenB != headK.LenA || headJ.SumB != headK.SumA {
		return "", api.ErrMatch
	}
	joined := journal.Join(l, m)
	h := journal.Head{LenA: headJ.LenA, LenB: headK.LenB, SumA: headJ.SumA, SumB: headK.SumB}
	return journal.Write(h, joined), api.OK
}

// Find looks for the next match of an expression (P9).
func Find(re string, s string, at int) (int, int, api.Errno) {
	if len(re) > api.MaxScript || len(s) > api.MaxRoom {
		return 0, 0, api.ErrLong
	}
	e, behind, ok := expression.Read(re, 0)
	if !ok || behind != len(re) {
		return 0, 0, api.ErrScript
	}
	if at < 0 || at > len(s) {
		return 0, 0, api.ErrArg
	}
	i, j := e.Find(s, at)
	return i, j, api.OK
}

// Check tells whether a text is a script, and of how many commands (P10).
func Check(script string) (int, api.Errno) {
	s, e := readScript(script)
	if e != api.OK {
		return 0, e
	}
	return len(s.Commands), api.OK
}

func readScript(script string) (commands.Script, api.Errno) {
	if len(script) > api.MaxScript {
		return commands.Script{}, api.ErrLong
	}
	s, ok := commands.Read(script)
	if !ok {
		return commands.Script{}, api.ErrScript
	}
	return s, api.OK
}

// Open begins a run (P11).
func Open(script string, quiet bool, steps int, room int) (*Editor, api.Errno) {
	s, e := readScript(script)
	if e != api.OK {
		return nil, e
	}
	if steps < 0 || steps > api.MaxSteps || room < 1 || room > api.MaxRoom {
		return nil, api.ErrArg
	}
	r := run.Begin(s, quiet, steps, room)
	return &Editor{run: r}, api.OK
}

// Feed gives the run more of its input (P12).
func (e *Editor) Feed(s string) (string, api.Errno) {
	if e == nil || e.closed {
		return "", api.ErrClosed
	}
	if e.death != api.OK {
		return "", e.death
	}
	if len(s) > api.MaxData-e.run.Fed() {
		return "", api.ErrLong
	}
	out, death := e.run.Feed(s)
	if death != api.OK {
		// Of a dead run nothing is asked for any more but its error.
		*e = Editor{death: death}
	}
	return out, death
}

// Close says that the input ends here (P12).
func (e *Editor) Close() (string, string, api.Errno) {
	if e == nil || e.closed {
		return "", "", api.ErrClosed
	}
	out, j, death := e.finish()
	// Of a closed editor nothing is asked for any more.
	*e = Editor{closed: true}
	return out, j, death
}

// finish lets the run go on to its end.
func (e *Editor) finish() (string, string, api.Errno) {
	if e.death != api.OK {
		return "", "", e.death
	}
	out, death := e.run.Close()
	if death != api.OK {
		return out, "", death
	}
	j := e.run.Journal()
	return out, j, api.OK
}
