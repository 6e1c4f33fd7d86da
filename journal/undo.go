package journal

import "retrace/api"

// Undo makes A of B and the records that lead from A to B, and tells whether B is long enough for them.
func Undo(l []api.Record, b string) (string, bool) {
	var a []byte
	for _, r := range l {
		_, inB := spans(r)
		if inB < 0 || inB > len(b) {
			return "", false
		}
		switch r.Kind {
		case api.Keep:
			a = append(a, b[:inB]...)
		case api.Restore:
			a = append(a, r.S...)
		}
		b = b[inB:]
	}
	return string(a), true
}
