package retrace_test

import (
	"strings"
	"testing"

	"retrace/retrace"
)

func TestSumOfTheExamples(t *testing.T) {
	for _, c := range []struct {
		s string
		n int
	}{{"", 65535}, {"A", 47381}, {"123456789", 10673}} {
		if n := retrace.Sum(c.s); n != c.n {
			t.Errorf("P3: Sum(%q) = %d, want %d", c.s, n, c.n)
		}
	}
}

func TestSumOfShortTexts(t *testing.T) {
	for c := range 256 {
		one := string([]byte{byte(c)})
		wantSum(t, one)
		for d := range 256 {
			wantSum(t, one+string([]byte{byte(d)}))
		}
	}
}

func TestSumOfLongTexts(t *testing.T) {
	// Sum has no limit of its own.
	for _, s := range []string{full, over, strings.Repeat("\x00", 20000), strings.Repeat("\xff", 20000), strings.Repeat("é\n", 50000)} {
		wantSum(t, s)
	}
}

func wantSum(t *testing.T, s string) {
	t.Helper()
	n := retrace.Sum(s)
	if n != sum(s) || n < 0 || n > 65535 {
		t.Errorf("P3: Sum(%q) = %d, want %d", clip(s), n, sum(s))
	}
}
