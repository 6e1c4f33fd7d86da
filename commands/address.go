package commands

import "retrace/expression"

// What an address is.
const (
	Line  = 1 // a line number
	Last  = 2 // the input's last line
	Match = 3 // an expression
)

// Address tells of which lines a command is.
type Address struct {
	Kind       int
	Line       int
	Expression expression.Expression
}

// Addresses is what stands ahead of a command's name.
type Addresses struct {
	Count  int // how many there are, 0 to 2
	First  Address
	Second Address
	Not    bool
}

// readAddresses answers the addresses with which a line begins, and the place behind them. What is no address is left there to be taken for a name: no name begins as an address does.
func readAddresses(line string) (Addresses, int) {
	first, next, ok := readAddress(line, 0)
	if !ok {
		return Addresses{}, 0
	}
	a := Addresses{Count: 1, First: first}
	if expression.Stands(line, next, ',') {
		second, behind, both := readAddress(line, next+1)
		if both {
			a.Count = 2
			a.Second = second
			next = behind
		}
	}
	if expression.Stands(line, next, '!') {
		a.Not = true
		next++
	}
	return a, next
}

// readAddress answers the address that stands at a place, and the place behind it.
func readAddress(line string, at int) (Address, int, bool) {
	if expression.Stands(line, at, '$') {
		return Address{Kind: Last}, at + 1, true
	}
	if expression.Stands(line, at, '/') {
		e, next, ok := readBetween(line, at)
		return Address{Kind: Match, Expression: e}, next, ok
	}
	n, next := readNumber(line, at)
	return Address{Kind: Line, Line: n}, next, next > at
}

// readBetween answers the expression that stands between two slashes, and the place behind the second.
func readBetween(line string, at int) (expression.Expression, int, bool) {
	if !expression.Stands(line, at, '/') {
		return expression.Expression{}, at, false
	}
	e, next, ok := expression.Read(line, at+1)
	if !ok || !expression.Stands(line, next, '/') {
		return expression.Expression{}, at, false
	}
	return e, next + 1, true
}

// readNumber answers the line number that stands at a place, and the place behind its last digit; the place itself, if there is none.
func readNumber(line string, at int) (int, int) {
	n := 0
	next := at
	for digit := digitAt(line, next); digit >= 0 && next-at < 4; digit = digitAt(line, next) {
		if n == 0 && digit == 0 {
			return 0, at
		}
		n = 10*n + digit
		next++
	}
	return n, next
}

// digitAt answers the digit at a place of a line; -1, if there is none.
func digitAt(line string, at int) int {
	if at < 0 || at >= len(line) || line[at] < '0' || line[at] > '9' {
		return -1
	}
	return int(line[at] - '0')
}
