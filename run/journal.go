package run

import (
	"retrace/api"
	"retrace/journal"
)

// Journal answers the journal of a run that has ended: from its input to all that was put out.
func (r *Run) Journal() string {
	out := textOf(r.out)
	l := records(r.in.text, r.out)
	short := journal.Short(l)
	h := journal.HeadOf(r.in.text, out)
	return journal.Write(h, short)
}

// records answers a list that leads from an input to what was put out. A byte can be kept only behind those that are kept already: a record never goes back.
func records(in string, out []cell) []api.Record {
	var l []api.Record
	place := 0
	for _, c := range out {
		if c.origin < place || c.origin >= len(in) {
			l = append(l, api.Record{Kind: api.Drop, N: 1})
			continue
		}
		if c.origin > place {
			l = append(l, restored(in[place:c.origin]))
		}
		l = append(l, api.Record{Kind: api.Keep, N: 1})
		place = c.origin + 1
	}
	if place < len(in) {
		l = append(l, restored(in[place:]))
	}
	return l
}

func restored(s string) api.Record {
	return api.Record{Kind: api.Restore, N: len(s), S: s}
}
