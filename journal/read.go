package journal

import "retrace/api"

// Read answers the head and the records of a journal, and whether it is one.
func Read(j string) (Head, []api.Record, bool) {
	body, sealed := unsealed(j)
	if !sealed {
		return Head{}, nil, false
	}
	h, at, headed := readHead(body)
	if !headed {
		return Head{}, nil, false
	}
	l, listed := readRecords(body, at, h)
	if !listed {
		return Head{}, nil, false
	}
	return h, l, true
}

// unsealed answers a journal without the sum at its end, and whether that sum is right.
func unsealed(j string) (string, bool) {
	cut := len(j) - 2
	if cut < 0 {
		return "", false
	}
	seal, _, there := readTwo(j, cut)
	body := j[:cut]
	sum := Sum(body)
	if !there || seal != sum {
		return "", false
	}
	return body, true
}

// readHead answers the head, and the place behind it.
func readHead(s string) (Head, int, bool) {
	if len(s) < len(magic) || s[:len(magic)] != magic {
		return Head{}, 0, false
	}
	lenA, at, okLenA := readLength(s, len(magic))
	if !okLenA {
		return Head{}, 0, false
	}
	lenB, at, okLenB := readLength(s, at)
	if !okLenB {
		return Head{}, 0, false
	}
	sumA, at, okSumA := readTwo(s, at)
	if !okSumA {
		return Head{}, 0, false
	}
	sumB, at, okSumB := readTwo(s, at)
	if !okSumB {
		return Head{}, 0, false
	}
	return Head{LenA: lenA, LenB: lenB, SumA: sumA, SumB: sumB}, at, true
}

func readLength(s string, at int) (int, int, bool) {
	n, next, ok := readNumber(s, at)
	if !ok || n > api.MaxData {
		return 0, 0, false
	}
	return n, next, true
}

// readRecords answers the records from a place up to the end, and whether they add up to the head's lengths.
func readRecords(s string, at int, h Head) ([]api.Record, bool) {
	var l []api.Record
	restA := h.LenA
	restB := h.LenB
	for at < len(s) {
		r, next, ok := readRecord(s, at)
		if !ok {
			return nil, false
		}
		inA, inB := spans(r)
		if inA > restA || inB > restB {
			return nil, false
		}
		restA -= inA
		restB -= inB
		l = append(l, r)
		at = next
	}
	if restA > 0 || restB > 0 {
		return nil, false
	}
	return l, true
}

// readRecord answers the record that stands at a place, and the place behind it.
func readRecord(s string, at int) (api.Record, int, bool) {
	mark, next, ok := readNumber(s, at)
	if !ok {
		return api.Record{}, 0, false
	}
	r := api.Record{Kind: mark % 4, N: mark / 4}
	if r.Kind == api.Restore {
		if next < 0 || next > len(s) || r.N > len(s)-next {
			return api.Record{}, 0, false
		}
		r.S = s[next : next+r.N]
		next += r.N
	}
	if !isRecord(r) {
		return api.Record{}, 0, false
	}
	return r, next, true
}
