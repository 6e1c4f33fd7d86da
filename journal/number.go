package journal

const (
	digit     = 128 // a byte carries seven bits of a number
	maxDigits = 3
)

// number writes a number that is not below 0; none of a journal's needs more than maxDigits bytes.
func number(v int) string {
	var out []byte
	for v >= digit {
		out = append(out, byte(digit+v%digit))
		v = v / digit
	}
	out = append(out, byte(v))
	return string(out)
}

// readNumber answers the number that stands at a place, and the place behind it.
func readNumber(s string, at int) (int, int, bool) {
	v := 0
	weight := 1
	for k := 0; k < maxDigits; k++ {
		if at < 0 || at >= len(s) {
			return 0, 0, false
		}
		c := int(s[at])
		at++
		if c == 0 && k > 0 {
			// With a 0 at its end one number would have two forms.
			return 0, 0, false
		}
		if c < digit {
			return v + c*weight, at, true
		}
		v += (c - digit) * weight
		weight = weight * digit
	}
	return 0, 0, false
}

// two writes a sum: the high byte first.
func two(v int) string {
	out := []byte{byte(v / 256), byte(v % 256)}
	return string(out)
}

// readTwo answers the sum that stands at a place, and the place behind it.
func readTwo(s string, at int) (int, int, bool) {
	if at < 0 || len(s)-at < 2 {
		return 0, 0, false
	}
	return int(s[at])*256 + int(s[at+1]), at + 2, true
}
