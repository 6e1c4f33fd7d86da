package retrace_test

import (
	"slices"
	"strings"
	"testing"

	"retrace/api"
	"retrace/retrace"
)

// The helpers make journals in their own way, so that a fault of the program is not a fault of its tests too.

func keep(n int) api.Record       { return api.Record{Kind: api.Keep, N: n} }
func drop(n int) api.Record       { return api.Record{Kind: api.Drop, N: n} }
func restore(s string) api.Record { return api.Record{Kind: api.Restore, N: len(s), S: s} }

func list(l ...api.Record) []api.Record { return l }

// repeated: a list of n times the same record.
func repeated(r api.Record, n int) []api.Record { return slices.Repeat(list(r), n) }

var (
	full = strings.Repeat("abcdefg\n", 512) // MaxData bytes
	over = full + "x"                       // one more
)

// sum: the sum of P3, by division in place of shifts: what is left of the text, as a polynomial.
func sum(s string) int {
	rest := 65535
	for _, c := range []byte(s) {
		rest ^= int(c) * 256
		for range 8 {
			rest *= 2
			if rest > 65535 {
				rest ^= 65536 + 4129
			}
		}
	}
	return rest
}

func two(n int) string { return string([]byte{byte(n / 256), byte(n)}) }

func sealed(s string) string { return s + two(sum(s)) }

func number(v int) string {
	switch {
	case v < 128:
		return string([]byte{byte(v)})
	case v < 128*128:
		return string([]byte{byte(128 + v%128), byte(v / 128)})
	}
	return string([]byte{byte(128 + v%128), byte(128 + v/128%128), byte(v / 128 / 128)})
}

func records(l []api.Record) string {
	s := ""
	for _, r := range l {
		s += number(4*r.N+r.Kind) + r.S
	}
	return s
}

func head(a, b string) string {
	return "RT" + number(len(a)) + number(len(b)) + two(sum(a)) + two(sum(b))
}

func journalOf(l []api.Record, a, b string) string { return sealed(head(a, b) + records(l)) }

// way: a list that leads from a to b.
type way struct {
	name string
	l    []api.Record
	a, b string
}

// ways: ordinary lists, and those at the edges.
func ways() []way {
	z := strings.Repeat("z", 4096)
	mixed := append(repeated(restore("z"), 4096), repeated(drop(1), 4096)...)
	w := []way{
		{"nothing", nil, "", ""},
		{"an empty list", list(), "", ""},
		{"all kept", list(keep(3)), "abc", "abc"},
		{"all dropped", list(drop(3)), "", "abc"},
		{"all restored", list(restore("abc")), "abc", ""},
		{"restored ahead of dropped", list(keep(1), restore("b"), drop(1), keep(1)), "abc", "axc"},
		{"dropped ahead of restored", list(keep(1), drop(1), restore("b"), keep(1)), "abc", "axc"},
		{"neighbours of one kind", list(keep(1), keep(1), drop(1), drop(2), restore("x"), restore("yz")), "abxyz", "ab123"},
		{"restored where it could be kept", list(restore("a"), drop(1)), "a", "a"},
		{"bytes of all kinds", list(restore("\x00\xff"), keep(3), drop(2)), "\x00\xff\n\x80R", "\n\x80RT\x00"},
		{"more bytes than letters", list(restore("é"), keep(2)), "éü", "ü"},
		{"a journal in a journal", list(restore("RT\x00\x00\xff\xff\xff\xff\xc7\x62")), "RT\x00\x00\xff\xff\xff\xff\xc7\x62", ""},
		{"MaxData kept", list(keep(4096)), full, full},
		{"MaxData restored and dropped", list(restore(full), drop(4096)), full, z},
		{"the longest journal", mixed, z, full},
	}
	for _, n := range []int{1, 31, 32, 33, 63, 64, 127, 128, 129, 255, 256, 4094, 4095, 4096} {
		w = append(w, way{"kept", list(keep(n)), full[:n], full[:n]})
		w = append(w, way{"dropped", list(drop(n)), "", full[:n]})
		w = append(w, way{"restored", list(restore(full[:n])), full[:n], ""})
	}
	return w
}

// clip: as much of a text as a message needs.
func clip(s string) string {
	if len(s) > 60 {
		return s[:60]
	}
	return s
}

func wantWrite(t *testing.T, l []api.Record, a, b, j string, e api.Errno) {
	t.Helper()
	gotJ, gotE := retrace.Write(l, a, b)
	if gotJ != j || gotE != e {
		t.Errorf("P4: Write(%.90v, %q, %q) = %q, %d, want %q, %d", l, clip(a), clip(b), clip(gotJ), gotE, clip(j), e)
	}
}

func wantRead(t *testing.T, j string, l []api.Record, e api.Errno) {
	t.Helper()
	gotL, gotE := retrace.Read(j)
	if !slices.Equal(gotL, l) || gotE != e {
		t.Errorf("P5: Read(%q) = %.90v, %d, want %.90v, %d", clip(j), gotL, gotE, l, e)
	}
	if e != api.OK && gotL != nil {
		t.Errorf("P1: Read(%q) answers a list beside the error %d", clip(j), gotE)
	}
}

func wantUndo(t *testing.T, b, j, a string, e api.Errno) {
	t.Helper()
	gotA, gotE := retrace.Undo(b, j)
	if gotA != a || gotE != e {
		t.Errorf("P6: Undo(%q, %q) = %q, %d, want %q, %d", clip(b), clip(j), clip(gotA), gotE, clip(a), e)
	}
}

func wantPack(t *testing.T, j, p string, e api.Errno) {
	t.Helper()
	gotP, gotE := retrace.Pack(j)
	if gotP != p || gotE != e {
		t.Errorf("P7: Pack(%q) = %q, %d, want %q, %d", clip(j), clip(gotP), gotE, clip(p), e)
	}
}

func wantJoin(t *testing.T, j, k, p string, e api.Errno) {
	t.Helper()
	gotP, gotE := retrace.Join(j, k)
	if gotP != p || gotE != e {
		t.Errorf("P8: Join(%q, %q) = %q, %d, want %q, %d", clip(j), clip(k), clip(gotP), gotE, clip(p), e)
	}
}
