package journal

import "retrace/api"

// magic are the bytes with which every journal begins.
const magic = "RT"

// Head is what a journal tells of its two texts.
type Head struct {
	LenA, LenB int
	SumA, SumB int
}

// HeadOf answers the head of a journal from a to b.
func HeadOf(a string, b string) Head {
	sumA := Sum(a)
	sumB := Sum(b)
	return Head{LenA: len(a), LenB: len(b), SumA: sumA, SumB: sumB}
}

// Write writes the journal of a head and of records that belong to it; it does not look whether they do.
func Write(h Head, l []api.Record) string {
	var out []byte
	start := headText(h)
	out = append(out, start...)
	for _, r := range l {
		mark := number(4*r.N + r.Kind)
		out = append(out, mark...)
		out = append(out, r.S...)
	}
	sum := Sum(string(out))
	seal := two(sum)
	out = append(out, seal...)
	return string(out)
}

func headText(h Head) string {
	lenA := number(h.LenA)
	lenB := number(h.LenB)
	sumA := two(h.SumA)
	sumB := two(h.SumB)
	return magic + lenA + lenB + sumA + sumB
}
