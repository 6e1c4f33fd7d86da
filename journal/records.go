package journal

import "retrace/api"

// AreRecords tells whether a list has records alone.
func AreRecords(l []api.Record) bool {
	for _, r := range l {
		if !isRecord(r) {
			return false
		}
	}
	return true
}

func isRecord(r api.Record) bool {
	if r.N < 1 {
		return false
	}
	switch r.Kind {
	case api.Keep, api.Drop:
		return r.S == ""
	case api.Restore:
		return len(r.S) == r.N
	}
	return false
}

// Leads tells whether a list of records leads from a to b.
func Leads(l []api.Record, a string, b string) bool {
	// The texts are cut down to what is still ahead: places that are added up could run over.
	for _, r := range l {
		inA, inB := spans(r)
		if inA < 0 || inA > len(a) || inB < 0 || inB > len(b) {
			return false
		}
		if r.Kind == api.Keep && a[:inA] != b[:inB] {
			return false
		}
		if r.Kind == api.Restore && a[:inA] != r.S {
			return false
		}
		a = a[inA:]
		b = b[inB:]
	}
	return a == "" && b == ""
}

// spans answers how many bytes of A and how many of B a record passes.
func spans(r api.Record) (int, int) {
	switch r.Kind {
	case api.Keep:
		return r.N, r.N
	case api.Drop:
		return 0, r.N
	}
	return r.N, 0
}
