package commands

import "retrace/expression"

// Exchange is what `y` is to do: each byte of From becomes the one that stands in its place in To.
type Exchange struct {
	From string
	To   string
}

func (c *Command) readExchange(rest string) bool {
	if !expression.Stands(rest, 0, '/') {
		return false
	}
	from, middle := readRow(rest, 1)
	if !expression.Stands(rest, middle, '/') {
		return false
	}
	to, end := readRow(rest, middle+1)
	if !expression.Stands(rest, end, '/') || end+1 != len(rest) {
		return false
	}
	c.Exchange = Exchange{From: from, To: to}
	return len(from) > 0 && len(from) == len(to) && !hasTwice(from)
}

// readRow answers the bytes that are written from a place on, as far as they go, and the place behind them.
func readRow(s string, at int) (string, int) {
	var row []byte
	c, behind, ok := expression.Byte(s, at, "/")
	for ok {
		row = append(row, c)
		at = behind
		c, behind, ok = expression.Byte(s, at, "/")
	}
	return string(row), at
}

// hasTwice tells whether some byte stands twice in a text.
func hasTwice(s string) bool {
	var seen [256]bool
	for i := 0; i < len(s); i++ {
		if seen[s[i]] {
			return true
		}
		seen[s[i]] = true
	}
	return false
}
