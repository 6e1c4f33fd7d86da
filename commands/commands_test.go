package commands

import (
	"reflect"
	"testing"

	"retrace/expression"
)

func of(t *testing.T, re string) expression.Expression {
	t.Helper()
	e, behind, ok := expression.Read(re, 0)
	if !ok || behind != len(re) {
		t.Fatalf("%q is no expression", re)
	}
	return e
}

func wantCommands(t *testing.T, script string, want ...Command) {
	t.Helper()
	got, ok := Read(script)
	if !ok || !reflect.DeepEqual(got.Commands, want) {
		t.Errorf("Read(%q) = %+v, %t, want %+v", script, got.Commands, ok, want)
	}
}

func TestReadAnswersNothingBesideANo(t *testing.T) {
	for _, s := range []string{"}", "p\nz", "{", "bx", ":a\n:a", "1", "p\n1,2"} {
		got, ok := Read(s)
		if ok || got.Commands != nil {
			t.Errorf("Read(%q) = %+v, %t", s, got, ok)
		}
	}
}

func TestReadAnswersTheCommandsInTheirOrder(t *testing.T) {
	wantCommands(t, "")
	wantCommands(t, "\n\n")
	wantCommands(t, "p\n\nd\n", Command{Name: 'p'}, Command{Name: 'd'})
}

func TestReadAnswersAddresses(t *testing.T) {
	line := func(n int) Address { return Address{Kind: Line, Line: n} }
	match := func(re string) Address { return Address{Kind: Match, Expression: of(t, re)} }
	last := Address{Kind: Last}
	for _, c := range []struct {
		text string
		want Addresses
	}{
		{"", Addresses{}},
		{"1", Addresses{Count: 1, First: line(1)}},
		{"70", Addresses{Count: 1, First: line(70)}},
		{"2305", Addresses{Count: 1, First: line(2305)}},
		{"9999!", Addresses{Count: 1, First: line(9999), Not: true}},
		{"$", Addresses{Count: 1, First: last}},
		{"/^a\\/*$/", Addresses{Count: 1, First: match("^a\\/*$")}},
		{"12,$", Addresses{Count: 2, First: line(12), Second: last}},
		{"$,/[^x]/!", Addresses{Count: 2, First: last, Second: match("[^x]"), Not: true}},
		{"/,/,3", Addresses{Count: 2, First: match(","), Second: line(3)}},
	} {
		wantCommands(t, c.text+"x", Command{Name: 'x', Addresses: c.want})
	}
}

func TestReadLeadsBracketsAndLabels(t *testing.T) {
	wantCommands(t, "{\n}", Command{Name: '{', Next: 2}, Command{Name: '}'})
	wantCommands(t, "{\n{\n}\n}\n{\np\n}",
		Command{Name: '{', Next: 4}, Command{Name: '{', Next: 3}, Command{Name: '}'}, Command{Name: '}'},
		Command{Name: '{', Next: 7}, Command{Name: 'p'}, Command{Name: '}'})
	wantCommands(t, "bz\n:a\nta\n:z\nb\nt",
		Command{Name: 'b', Label: 'z', Next: 4}, Command{Name: ':', Label: 'a'}, Command{Name: 't', Label: 'a', Next: 2},
		Command{Name: ':', Label: 'z'}, Command{Name: 'b', Next: 6}, Command{Name: 't', Next: 6})
}

func TestReadAnswersTexts(t *testing.T) {
	wantCommands(t, "a\ni b \nc\\n/&", Command{Name: 'a'}, Command{Name: 'i', Text: " b "}, Command{Name: 'c', Text: "\\n/&"})
}

func TestReadAnswersSubstitutions(t *testing.T) {
	matched := Piece{Matched: true}
	for _, c := range []struct {
		text string
		want Substitution
	}{
		{"s/a*//", Substitution{Expression: of(t, "a*"), Count: 1}},
		{"s/a/b/p", Substitution{Expression: of(t, "a"), Replacement: []Piece{{Byte: 'b'}}, Count: 1, Print: true}},
		{"s/[\\/]/&x&/g", Substitution{Expression: of(t, "[\\/]"), Replacement: []Piece{matched, {Byte: 'x'}, matched}, Count: 1, All: true}},
		{"s/$/\\&\\n\\/n/9", Substitution{Expression: of(t, "$"), Replacement: []Piece{{Byte: '&'}, {Byte: '\n'}, {Byte: '/'}, {Byte: 'n'}}, Count: 9}},
		{"s/a/\\\\/1gp", Substitution{Expression: of(t, "a"), Replacement: []Piece{{Byte: '\\'}}, Count: 1, All: true, Print: true}},
		{"s/a/&/2p", Substitution{Expression: of(t, "a"), Replacement: []Piece{matched}, Count: 2, Print: true}},
	} {
		wantCommands(t, c.text, Command{Name: 's', Substitution: c.want})
	}
}

func TestReadAnswersExchanges(t *testing.T) {
	wantCommands(t, "y/a/b/\ny/\\n\\/n\\\\&/xy\\z\\n\xff/",
		Command{Name: 'y', Exchange: Exchange{From: "a", To: "b"}},
		Command{Name: 'y', Exchange: Exchange{From: "\n/n\\&", To: "xyz\n\xff"}})
}
