package journal

import "retrace/api"

// Short answers the short list of a list of records.
func Short(l []api.Record) []api.Record {
	var s shortList
	for _, r := range l {
		s.add(r)
	}
	return s.all()
}

// shortList grows to a short list. Its last Keep, Drop and Restore are held back: whatever comes ahead of the next Keep belongs to them.
type shortList struct {
	settled  []api.Record
	kept     int
	dropped  int
	restored []byte
}

func (s *shortList) add(r api.Record) {
	switch r.Kind {
	case api.Keep:
		if s.dropped > 0 || len(s.restored) > 0 {
			s.settle()
		}
		s.kept += r.N
	case api.Drop:
		s.dropped += r.N
	case api.Restore:
		s.restored = append(s.restored, r.S...)
	}
}

func (s *shortList) settle() {
	if s.kept > 0 {
		s.settled = append(s.settled, api.Record{Kind: api.Keep, N: s.kept})
	}
	if s.dropped > 0 {
		s.settled = append(s.settled, api.Record{Kind: api.Drop, N: s.dropped})
	}
	if len(s.restored) > 0 {
		s.settled = append(s.settled, api.Record{Kind: api.Restore, N: len(s.restored), S: string(s.restored)})
	}
	s.kept = 0
	s.dropped = 0
	s.restored = nil
}

func (s *shortList) all() []api.Record {
	s.settle()
	return s.settled
}
