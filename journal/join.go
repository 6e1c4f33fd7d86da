package journal

import "retrace/api"

// Join makes one short list of two lists: l leads from A to a text between, and m from there to B.
func Join(l []api.Record, m []api.Record) []api.Record {
	first := walk{list: l}
	second := walk{list: m}
	var s shortList
	for first.left() || second.left() {
		r := first.piece()
		q := second.piece()
		switch {
		case r.Kind == api.Restore:
			// These bytes are not in the text between: m has nothing for them.
			s.add(r)
			first.pass(r.N)
		case q.Kind == api.Drop:
			s.add(q)
			second.pass(q.N)
		default:
			n := lesser(r.N, q.N)
			if n < 1 {
				// One list passes more of the text between than the other.
				return s.all()
			}
			s.addBoth(r, q, n)
			first.pass(n)
			second.pass(n)
		}
	}
	return s.all()
}

// addBoth adds what becomes of n bytes of the text between: r says how they came there, q what is done with them.
func (s *shortList) addBoth(r api.Record, q api.Record, n int) {
	switch {
	case r.Kind == api.Keep && q.Kind == api.Keep:
		s.add(api.Record{Kind: api.Keep, N: n})
	case r.Kind == api.Keep && n <= len(q.S):
		s.add(api.Record{Kind: api.Restore, N: n, S: q.S[:n]})
	case r.Kind == api.Drop && q.Kind == api.Keep:
		s.add(api.Record{Kind: api.Drop, N: n})
	}
	// What came and goes again is neither in A nor in B.
}

func lesser(a int, b int) int {
	if a < b {
		return a
	}
	return b
}

// walk goes through a list, and may stop within a record.
type walk struct {
	list   []api.Record
	at     int
	passed int // how many bytes of the record at that place
}

func (w *walk) left() bool { return w.at < len(w.list) }

// piece answers what is left of the record at which the walk is; at the list's end a Keep of nothing.
func (w *walk) piece() api.Record {
	if w.at < 0 || w.at >= len(w.list) {
		return api.Record{}
	}
	r := w.list[w.at]
	r.N -= w.passed
	if w.passed > 0 && w.passed <= len(r.S) {
		r.S = r.S[w.passed:]
	}
	return r
}

// pass goes on by n bytes, at most to the end of the record.
func (w *walk) pass(n int) {
	if w.at < 0 || w.at >= len(w.list) {
		return
	}
	w.passed += n
	if w.passed >= w.list[w.at].N {
		w.at++
		w.passed = 0
	}
}
