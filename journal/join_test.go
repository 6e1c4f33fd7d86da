package journal

import (
	"slices"
	"testing"

	"retrace/api"
)

// Lists that do not lead on from one another are not for Join, yet it ends at them.
func TestJoinEndsAtListsThatDoNotFit(t *testing.T) {
	keep := []api.Record{{Kind: api.Keep, N: 1}}
	longer := []api.Record{{Kind: api.Keep, N: 3}}
	for _, c := range []struct{ l, m, want []api.Record }{
		{keep, longer, keep}, {longer, keep, keep}, {keep, nil, nil}, {nil, keep, nil},
	} {
		if got := Join(c.l, c.m); !slices.Equal(got, c.want) {
			t.Errorf("Join(%v, %v) = %v, want %v", c.l, c.m, got, c.want)
		}
	}
	var odd []api.Record
	for kind := -1; kind <= 3; kind++ {
		for n := -2; n <= 2; n++ {
			for _, s := range []string{"", "a", "ab"} {
				odd = append(odd, api.Record{Kind: kind, N: n, S: s})
			}
		}
	}
	for _, r := range odd {
		for _, q := range odd {
			Join([]api.Record{r, q}, []api.Record{q, r})
		}
	}
}

// The lists that are joined stay as they are.
func TestJoinWritesIntoNoList(t *testing.T) {
	l := []api.Record{{Kind: api.Keep, N: 3}, {Kind: api.Restore, N: 2, S: "de"}, {Kind: api.Drop, N: 2}}
	m := []api.Record{{Kind: api.Restore, N: 4, S: "abcx"}, {Kind: api.Keep, N: 1}}
	beforeL := slices.Clone(l)
	beforeM := slices.Clone(m)
	want := []api.Record{{Kind: api.Drop, N: 1}, {Kind: api.Restore, N: 5, S: "abcde"}}
	if got := Join(l, m); !slices.Equal(got, want) {
		t.Errorf("Join(%v, %v) = %v, want %v", l, m, got, want)
	}
	Short(l)
	if !slices.Equal(l, beforeL) || !slices.Equal(m, beforeM) {
		t.Errorf("Join or Short wrote into %v or %v", l, m)
	}
}
