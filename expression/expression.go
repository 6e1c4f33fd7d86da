// Package expression reads expressions and tells from where to where they match.
package expression

// Expression is what an expression says.
type Expression struct {
	atStart bool // it matches from the text's first place alone
	atEnd   bool // it matches to the text's end alone
	items   []item
}

// item: the bytes of which it matches one, or any number.
type item struct {
	has  [256]bool
	many bool
}

// Read answers the expression that stands at a place of a text, as far as it goes, and the place behind it. What is no part of it is left to the caller, who knows what may stand behind an expression.
func Read(s string, at int) (Expression, int, bool) {
	var e Expression
	next := at
	if Stands(s, next, '^') {
		e.atStart = true
		next++
	}
	it, behind, ok := readItem(s, next)
	for ok {
		e.items = append(e.items, it)
		next = behind
		it, behind, ok = readItem(s, next)
	}
	if Stands(s, next, '$') {
		e.atEnd = true
		next++
	}
	return e, next, next > at
}

// readItem answers the item that stands at a place, and the place behind it.
func readItem(s string, at int) (item, int, bool) {
	it, next, ok := readBytes(s, at)
	if ok && Stands(s, next, '*') {
		it.many = true
		next++
	}
	return it, next, ok
}

// readBytes answers an item without what may stand behind it.
func readBytes(s string, at int) (item, int, bool) {
	if Stands(s, at, '[') {
		return readMembers(s, at+1)
	}
	var it item
	if Stands(s, at, '.') {
		it.turn()
		return it, at + 1, true
	}
	c, next, ok := Byte(s, at, "/.*[]^$")
	if ok {
		it.has[c] = true
	}
	return it, next, ok
}

// readMembers answers the item whose bracket has been opened.
func readMembers(s string, at int) (item, int, bool) {
	var it item
	first := at
	other := Stands(s, at, '^')
	if other {
		first++
	}
	next := first
	low, high, behind, ok := readMember(s, next)
	for ok {
		it.add(low, high)
		next = behind
		low, high, behind, ok = readMember(s, next)
	}
	if next == first || !Stands(s, next, ']') {
		return item{}, at, false
	}
	if other {
		it.turn()
	}
	return it, next + 1, true
}

// readMember answers the lowest and the highest byte of a member, and the place behind it.
func readMember(s string, at int) (byte, byte, int, bool) {
	low, next, ok := readMark(s, at)
	if !ok || !Stands(s, next, '-') {
		return low, low, next, ok
	}
	high, behind, closed := readMark(s, next+1)
	if !closed || low > high {
		return 0, 0, at, false
	}
	return low, high, behind, true
}

func readMark(s string, at int) (byte, int, bool) { return Byte(s, at, "/]-") }

// add takes all bytes from the lowest to the highest in.
func (it *item) add(low byte, high byte) {
	// An int, since no byte is above the highest of all.
	for c := int(low); c <= int(high) && c < len(it.has); c++ {
		it.has[c] = true
	}
}

// turn takes in just the bytes that were not in.
func (it *item) turn() {
	for c := range it.has {
		it.has[c] = !it.has[c]
	}
}
