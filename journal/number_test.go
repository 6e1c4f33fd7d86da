package journal

import "testing"

func TestNumbersComeBack(t *testing.T) {
	for v := range 128 * 128 * 128 {
		s := number(v)
		got, next, ok := readNumber("ab"+s+"\x00", 2)
		if got != v || next != 2+len(s) || !ok {
			t.Fatalf("number(%d) = %x, read as %d up to %d, %v", v, s, got, next, ok)
		}
		if _, _, ok := readNumber(s[:len(s)-1], 0); ok {
			t.Fatalf("number(%d) is read although it is cut short", v)
		}
	}
}

func TestNumberBytes(t *testing.T) {
	for _, c := range []struct {
		v int
		s string
	}{{0, "\x00"}, {1, "\x01"}, {127, "\x7f"}, {128, "\x80\x01"}, {129, "\x81\x01"}, {16383, "\xff\x7f"}, {16384, "\x80\x80\x01"}, {2097151, "\xff\xff\x7f"}} {
		if s := number(c.v); s != c.s {
			t.Errorf("number(%d) = %x, want %x", c.v, s, c.s)
		}
	}
}

func TestNoNumbers(t *testing.T) {
	for _, s := range []string{"", "\x80", "\xff", "\x80\x00", "\x81\x00", "\x80\x80", "\x80\x80\x00", "\xff\xff\x00", "\xff\xff\xff", "\x80\x80\x80\x01"} {
		if v, next, ok := readNumber(s, 0); v != 0 || next != 0 || ok {
			t.Errorf("readNumber(%x) = %d, %d, %v", s, v, next, ok)
		}
	}
	for _, at := range []int{-1, 1, 2, 1 << 30} {
		if _, _, ok := readNumber("a", at); ok {
			t.Errorf("readNumber at %d of 1", at)
		}
	}
}

func TestTwoBytes(t *testing.T) {
	for v := range 65536 {
		s := two(v)
		got, next, ok := readTwo("a"+s, 1)
		if got != v || next != 3 || !ok || int(s[0]) != v/256 {
			t.Fatalf("two(%d) = %x, read as %d up to %d, %v", v, s, got, next, ok)
		}
	}
	for _, at := range []int{-1, 1, 2, 3} {
		if _, _, ok := readTwo("ab", at); ok {
			t.Errorf("readTwo at %d of 2", at)
		}
	}
}
