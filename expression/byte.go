package expression

// Byte answers the one byte that is written at a place, and the place behind it: a newline or any byte behind a backslash, or a byte that stands for itself. None of the barred ones does, nor a newline or a backslash.
func Byte(s string, at int, barred string) (byte, int, bool) {
	if at < 0 || at >= len(s) {
		return 0, at, false
	}
	c := s[at]
	if c == '\\' {
		return escaped(s, at+1)
	}
	if c == '\n' || among(c, barred) {
		return 0, at, false
	}
	return c, at + 1, true
}

// escaped answers the byte that is written behind a backslash.
func escaped(s string, at int) (byte, int, bool) {
	if at < 0 || at >= len(s) || s[at] == '\n' {
		return 0, at, false
	}
	if s[at] == 'n' {
		return '\n', at + 1, true
	}
	return s[at], at + 1, true
}

func among(c byte, s string) bool {
	for i := 0; i < len(s); i++ {
		if s[i] == c {
			return true
		}
	}
	return false
}

// Stands tells whether a byte stands at a place of a text.
func Stands(s string, at int, c byte) bool {
	return at >= 0 && at < len(s) && s[at] == c
}
