package run

// nowhere: the origin of a byte that has none.
const nowhere = -1

// cell: one byte of a space, and its origin: the place of the input from which it comes.
//
// Lists of cells are never written into: every change makes a new one. So two spaces may share one list.
type cell struct {
	value  byte
	origin int
}

func newline(origin int) cell { return cell{value: '\n', origin: origin} }

// fresh answers the bytes of a text that is not from the input.
func fresh(s string) []cell {
	var l []cell
	for i := 0; i < len(s); i++ {
		l = append(l, cell{value: s[i], origin: nowhere})
	}
	return l
}

func joined(a []cell, between cell, b []cell) []cell {
	var l []cell
	l = append(l, a...)
	l = append(l, between)
	l = append(l, b...)
	return l
}

func textOf(l []cell) string {
	var s []byte
	for _, c := range l {
		s = append(s, c.value)
	}
	return string(s)
}

// behindNewline answers the place behind the first newline; 0, if there is none.
func behindNewline(l []cell) int {
	for i, c := range l {
		if c.value == '\n' {
			return i + 1
		}
	}
	return 0
}

// part answers the cells from a place up to another.
func part(l []cell, from int, to int) []cell {
	if from < 0 || to < from || to > len(l) {
		return nil
	}
	return l[from:to]
}
