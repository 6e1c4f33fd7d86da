package retrace_test

import (
	"strings"
	"testing"

	"retrace/api"
)

func TestReadOfWays(t *testing.T) {
	for _, w := range ways() {
		t.Run(w.name, func(t *testing.T) {
			wantRead(t, journalOf(w.l, w.a, w.b), w.l, api.OK)
		})
	}
}

// A journal does not tell whether there are texts of its lengths and sums.
func TestReadLooksAtNoText(t *testing.T) {
	wantRead(t, sealed("RT\x00\x00\x12\x34\x56\x78"), nil, api.OK)
	wantRead(t, sealed("RT\x01\x02\x00\x00\x00\x00\x05\x06a\x05"), list(drop(1), restore("a"), drop(1)), api.OK)
}

func TestReadRefusesLongJournals(t *testing.T) {
	wantRead(t, strings.Repeat("a", api.MaxJournal), nil, api.ErrJournal)
	wantRead(t, strings.Repeat("a", api.MaxJournal+1), nil, api.ErrLong)
	start := head(full, full)
	wantRead(t, sealed(start+strings.Repeat("\x05", api.MaxJournal-len(start)-2)), nil, api.ErrJournal)
	wantRead(t, sealed(start+strings.Repeat("\x05", api.MaxJournal-len(start)-1)), nil, api.ErrLong)
}

func TestReadRefusesWhatIsCutOrLonger(t *testing.T) {
	for _, w := range ways() {
		if len(w.a)+len(w.b) > 100 {
			continue
		}
		j := journalOf(w.l, w.a, w.b)
		body := j[:len(j)-2]
		for n := range j {
			wantRead(t, j[:n], nil, api.ErrJournal)
			wantRead(t, j[n+1:], nil, api.ErrJournal)
		}
		for n := range body {
			// Summed up anew it is no journal either: its lengths are not reached.
			wantRead(t, sealed(body[:n]), nil, api.ErrJournal)
			wantUndo(t, w.b, sealed(body[:n]), "", api.ErrJournal)
		}
		for c := range 256 {
			more := string([]byte{byte(c)})
			wantRead(t, j+more, nil, api.ErrJournal)
			wantRead(t, sealed(body+more), nil, api.ErrJournal)
			wantRead(t, sealed(more+body), nil, api.ErrJournal)
		}
	}
}

// The sum at the end notices every change of a single byte.
func TestReadRefusesChangedBytes(t *testing.T) {
	j := journalOf(list(keep(1), drop(1), restore("b"), keep(1)), "abc", "axc")
	for i := range j {
		for c := range 256 {
			changed := []byte(j)
			changed[i] = byte(c)
			if string(changed) != j {
				wantRead(t, string(changed), nil, api.ErrJournal)
			}
		}
	}
}

func TestReadRefusesWrongParts(t *testing.T) {
	sums := two(sum("a")) + two(sum("a"))
	for _, c := range []struct{ name, body string }{
		{"no bytes", ""},
		{"other first bytes", "rt\x01\x01" + sums + "\x04"},
		{"one first byte", "R\x01\x01" + sums + "\x04"},
		{"a length with a last byte of 0", "RT\x81\x00\x01" + sums + "\x04"},
		{"a length of three bytes with a last byte of 0", "RT\x01\x81\x80\x00" + sums + "\x04"},
		{"a length of 0 in two bytes", "RT\x80\x00\x01" + sums + "\x05"},
		{"a length of four bytes", "RT\x01\x81\x80\x80\x01" + sums + "\x04"},
		{"a length without end", "RT\x01\x81\x81\x81"},
		{"a length above MaxData", "RT\x81\x20\x81\x20" + sums + number(4*4097)},
		{"a length A above MaxData", "RT\x81\x20\x00" + sums + number(4*4097+2) + over},
		{"a length B above MaxData", "RT\x00\x81\x20" + sums + number(4*4097+1)},
		{"a length of three bytes", "RT\x00\x80\x80\x01" + sums + "\x81\x80\x04"},
		{"a sum cut short", "RT\x00\x00\x00\x00\x00"},
		{"a record of a fourth kind", "RT\x01\x01" + sums + "\x07"},
		{"a fourth kind with a byte", "RT\x01\x01" + sums + "\x07a"},
		{"a Keep of 0", "RT\x01\x01" + sums + "\x04\x00"},
		{"a Drop of 0", "RT\x01\x01" + sums + "\x01\x04"},
		{"a Restore of 0", "RT\x01\x01" + sums + "\x02\x04"},
		{"a number with a last byte of 0", "RT\x01\x01" + sums + "\x84\x00"},
		{"a number of three bytes with a last byte of 0", "RT\x01\x01" + sums + "\x84\x80\x00"},
		{"a number of four bytes", "RT\x01\x01" + sums + "\x84\x80\x80\x00"},
		{"a number cut short", "RT\x01\x01" + sums + "\x84"},
		{"a Restore cut short", "RT\x02\x00" + sums + "\x0aa"},
		{"a Restore without its byte", "RT\x01\x00" + sums + "\x06"},
		{"a Restore of too great a number", "RT\x01\x00" + sums + "\xfe\xff\x7fa"},
		{"a Keep of too great a number", "RT\x01\x01" + sums + "\xfc\xff\x7f"},
		{"a Drop of too great a number", "RT\x00\x01" + sums + "\xfd\xff\x7f"},
		{"a Keep of 4128 for 4096", head(full, full) + "\x80\x81\x01"},
		{"a Drop of 4128 for 4096", head("", full) + "\x81\x81\x01"},
		{"a Restore of 4128 for 4096", head(full, "") + "\x82\x81\x01" + full},
		{"A not reached", "RT\x02\x01" + sums + "\x04"},
		{"B not reached", "RT\x01\x02" + sums + "\x04"},
		{"A passed", "RT\x00\x01" + sums + "\x04"},
		{"B passed", "RT\x01\x00" + sums + "\x04"},
		{"B passed by a Drop", "RT\x01\x01" + sums + "\x04\x05"},
		{"A passed by a Restore", "RT\x01\x01" + sums + "\x04\x06a"},
		{"no records", "RT\x01\x01" + sums},
	} {
		t.Run(c.name, func(t *testing.T) {
			wantRead(t, sealed(c.body), nil, api.ErrJournal)
			wantUndo(t, "a", sealed(c.body), "", api.ErrJournal)
		})
	}
}

func TestReadTakesNumbersUpToThreeBytes(t *testing.T) {
	wantRead(t, sealed(head("a", "a")+"\x04"), list(keep(1)), api.OK)
	wantRead(t, sealed(head(full[:32], "")+"\x82\x01"+full[:32]), list(restore(full[:32])), api.OK)
	wantRead(t, sealed(head("", full)+"\x81\x80\x01"), list(drop(4096)), api.OK)
}

func TestReadRefusesAWrongSum(t *testing.T) {
	body := head("a", "a") + "\x04"
	right := sum(body)
	wantRead(t, body+two(right), list(keep(1)), api.OK)
	for n := range 65536 {
		if n != right {
			wantRead(t, body+two(n), nil, api.ErrJournal)
		}
	}
}
