package retrace_test

import (
	"math"
	"testing"

	"retrace/api"
	"retrace/retrace"
)

func TestWriteOfTheExamples(t *testing.T) {
	wantWrite(t, nil, "", "", "RT\x00\x00\xff\xff\xff\xff\xc7\x62", api.OK)
	wantWrite(t, list(keep(1)), "a", "b", "", api.ErrMatch)
	wantWrite(t, list(keep(1)), "ab", "ab", "", api.ErrMatch)
	wantWrite(t, list(drop(0)), "", "", "", api.ErrArg)
}

func TestWriteOfNumbers(t *testing.T) {
	for _, c := range []struct {
		l          []api.Record
		a, b, want string
	}{
		{list(keep(1)), full[:1], full[:1], "\x04"},
		{list(drop(31)), "", full[:31], "\x7d"},
		{list(keep(31), restore("x")), full[:31] + "x", full[:31], "\x7c\x06x"},
		{list(keep(32)), full[:32], full[:32], "\x80\x01"},
		{list(drop(4095)), "", full[:4095], "\xfd\x7f"},
		{list(keep(4096)), full, full, "\x80\x80\x01"},
		{list(drop(4096)), "", full, "\x81\x80\x01"},
	} {
		wantWrite(t, c.l, c.a, c.b, sealed(head(c.a, c.b)+c.want), api.OK)
	}
	long := head(full[:127], full[:128])
	if long[2:5] != "\x7f\x80\x01" {
		t.Fatalf("the tests' own lengths are wrong: %x", long)
	}
	wantWrite(t, list(keep(127), drop(1)), full[:127], full[:128], sealed(long+"\xfc\x03\x05"), api.OK)
}

func TestWriteOfWays(t *testing.T) {
	for _, w := range ways() {
		t.Run(w.name, func(t *testing.T) {
			wantWrite(t, w.l, w.a, w.b, journalOf(w.l, w.a, w.b), api.OK)
			if j, _ := retrace.Write(w.l, w.a, w.b); len(j) > api.MaxJournal {
				t.Errorf("P4: a journal of %d bytes", len(j))
			}
		})
	}
}

func TestWriteRefusesLongTexts(t *testing.T) {
	wantWrite(t, list(restore(over)), over, "", "", api.ErrLong)
	wantWrite(t, list(drop(4097)), "", over, "", api.ErrLong)
	wantWrite(t, list(keep(4097)), over, over, "", api.ErrLong)
	// ErrLong is named ahead of the others.
	wantWrite(t, list(drop(0)), over, "", "", api.ErrLong)
	wantWrite(t, nil, "", over, "", api.ErrLong)
}

func TestWriteRefusesWhatIsNoRecord(t *testing.T) {
	for _, r := range []api.Record{
		{}, keep(0), drop(0), restore(""),
		keep(-1), drop(-1), keep(math.MinInt), drop(math.MinInt),
		{Kind: api.Restore, N: -1}, {Kind: api.Restore, N: -1, S: "a"}, {Kind: api.Restore, N: math.MinInt, S: "a"},
		{Kind: api.Keep, N: 1, S: "a"}, {Kind: api.Drop, N: 1, S: "a"}, {Kind: api.Drop, N: 1, S: "\x00"},
		{Kind: api.Restore, N: 1}, {Kind: api.Restore, N: 2, S: "a"}, {Kind: api.Restore, N: 1, S: "ab"},
		{Kind: api.Restore, N: math.MaxInt, S: "a"}, {Kind: api.Restore, N: 0, S: "a"},
		{Kind: 3, N: 1}, {Kind: 3, N: 1, S: "a"}, {Kind: 4, N: 1}, {Kind: -1, N: 1}, {Kind: math.MaxInt, N: 1}, {Kind: math.MinInt, N: 1},
	} {
		wantWrite(t, list(r), "", "", "", api.ErrArg)
		wantWrite(t, list(r), "a", "a", "", api.ErrArg)
		wantWrite(t, list(r, keep(1)), "a", "a", "", api.ErrArg)
		wantWrite(t, list(keep(1), r), "a", "a", "", api.ErrArg)
		// ErrArg is named ahead of ErrMatch, wherever the two stand.
		wantWrite(t, list(keep(9), r), "a", "a", "", api.ErrArg)
		wantWrite(t, list(r, keep(9)), "a", "a", "", api.ErrArg)
	}
}

func TestWriteRefusesWhatDoesNotLead(t *testing.T) {
	for _, c := range []struct {
		l    []api.Record
		a, b string
	}{
		{nil, "a", ""}, {nil, "", "a"}, {nil, "a", "a"},
		{list(keep(1)), "", ""}, {list(keep(1)), "a", ""}, {list(keep(1)), "", "a"}, {list(keep(2)), "a", "a"},
		{list(keep(2)), "ab", "ac"}, {list(keep(1)), "ab", "a"}, {list(keep(1)), "a", "ab"}, {list(keep(1), keep(1)), "ab", "aa"},
		{list(drop(1)), "", ""}, {list(drop(1)), "a", ""}, {list(drop(2)), "", "a"}, {list(drop(1)), "", "ab"}, {list(drop(1)), "a", "a"},
		{list(restore("a")), "", ""}, {list(restore("a")), "", "a"}, {list(restore("a")), "b", ""}, {list(restore("ab")), "a", ""}, {list(restore("a")), "ab", ""}, {list(restore("a")), "a", "a"},
		{list(restore("b"), keep(1)), "ab", "b"}, {list(drop(1), keep(1)), "a", "ab"},
		{list(restore(over)), full, ""}, {list(keep(4096), keep(1)), full, full}, {list(drop(4097)), "", full},
		{list(keep(math.MaxInt)), "a", "a"}, {list(drop(math.MaxInt)), "", "a"}, {list(keep(1), keep(math.MaxInt)), "ab", "ab"},
		{list(drop(1), drop(math.MaxInt)), "", "ab"}, {list(drop(math.MaxInt), drop(math.MaxInt), drop(3)), "", "a"},
		{repeated(drop(1), 100000), "", full}, {repeated(drop(1), 4097), "", full}, {repeated(keep(1), 4095), full, full},
	} {
		wantWrite(t, c.l, c.a, c.b, "", api.ErrMatch)
	}
}
