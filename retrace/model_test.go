package retrace_test

import (
	"math/rand/v2"
	"slices"

	"retrace/api"
)

// model: a list, place by place: for each place of A the place of B with which it is kept, or none, and the byte that is restored there.
type model struct {
	with  []int
	bytes []byte
	lenB  int
}

const none = -1

func modelOf(l []api.Record) model {
	var m model
	for _, r := range l {
		for i := range r.N {
			switch r.Kind {
			case api.Keep:
				m.with = append(m.with, m.lenB)
				m.bytes = append(m.bytes, 0)
				m.lenB++
			case api.Drop:
				m.lenB++
			case api.Restore:
				m.with = append(m.with, none)
				m.bytes = append(m.bytes, r.S[i])
			}
		}
	}
	return m
}

// joined: the places of m's A and of k's B, as P8 keeps them together.
func (m model) joined(k model) model {
	out := model{lenB: k.lenB}
	for i, b := range m.with {
		if b == none {
			out.with = append(out.with, none)
			out.bytes = append(out.bytes, m.bytes[i])
			continue
		}
		out.with = append(out.with, k.with[b])
		out.bytes = append(out.bytes, k.bytes[b])
	}
	return out
}

// short: the short list, made of the places that are kept together alone.
func (m model) short() []api.Record {
	var l []api.Record
	a, b := 0, 0
	change := func(toA, toB int) {
		if toB > b {
			l = append(l, drop(toB-b))
		}
		if toA > a {
			l = append(l, restore(string(m.bytes[a:toA])))
		}
	}
	for i, with := range m.with {
		if with == none {
			continue
		}
		change(i, with)
		if n := len(l); n > 0 && l[n-1].Kind == api.Keep {
			l[n-1].N++
		} else {
			l = append(l, keep(1))
		}
		a, b = i+1, with+1
	}
	change(len(m.with), m.lenB)
	return l
}

// filled: the same kinds and numbers, with restored bytes that tell their place.
func filled(l []api.Record, first byte) []api.Record {
	l = slices.Clone(l)
	a := 0
	for i, r := range l {
		if r.Kind == api.Restore {
			s := make([]byte, r.N)
			for k := range s {
				s[k] = first + byte((a+k)%26)
			}
			l[i].S = string(s)
		}
		if r.Kind != api.Drop {
			a += r.N
		}
	}
	return l
}

// textless: the journal of a list, with sums that belong to no text.
func textless(l []api.Record, sumA, sumB int) string {
	m := modelOf(l)
	return sealed("RT" + number(len(m.with)) + number(m.lenB) + two(sumA) + two(sumB) + records(l))
}

// shapes: every list of up to most records of these kinds and numbers.
func shapes(most int) [][]api.Record {
	choice := list(keep(1), keep(2), drop(1), drop(2), restore("-"), restore("--"))
	all := [][]api.Record{nil}
	for from := 0; len(all[from]) < most; from++ {
		for _, r := range choice {
			all = append(all, append(slices.Clone(all[from]), r))
		}
	}
	return all
}

// someWay: a list from a on to a text of lenB bytes; the same for the same source.
func someWay(rnd *rand.Rand, a string, lenB int) ([]api.Record, string) {
	var l []api.Record
	b := ""
	for a != "" || len(b) < lenB {
		n := 1 + rnd.IntN(1+rnd.IntN(40))
		kind := rnd.IntN(3)
		if kind != api.Drop {
			n = min(n, len(a))
		}
		if kind != api.Restore {
			n = min(n, lenB-len(b))
		}
		if n == 0 {
			continue
		}
		switch kind {
		case api.Keep:
			l = append(l, keep(n))
			a, b = a[n:], b+a[:n]
		case api.Drop:
			l = append(l, drop(n))
			for range n {
				b += string([]byte{byte(rnd.IntN(256))})
			}
		case api.Restore:
			l = append(l, restore(a[:n]))
			a = a[n:]
		}
	}
	return l, b
}
