package commands

import "retrace/expression"

// Substitution is what `s` is to do.
type Substitution struct {
	Expression  expression.Expression
	Replacement []Piece
	Count       int  // the match with which it begins, from 1 on
	All         bool // each later match too
	Print       bool
}

// Piece is a part of a replacement: what was matched, or one byte.
type Piece struct {
	Matched bool
	Byte    byte
}

func (c *Command) readSubstitution(rest string) bool {
	e, next, ok := readBetween(rest, 0)
	if !ok {
		return false
	}
	pieces, end := readReplacement(rest, next)
	if !expression.Stands(rest, end, '/') {
		return false
	}
	c.Substitution = Substitution{Expression: e, Replacement: pieces, Count: 1}
	return c.Substitution.readFlags(rest, end+1)
}

// readReplacement answers the replacement that stands at a place, as far as it goes, and the place behind it.
func readReplacement(s string, at int) ([]Piece, int) {
	var pieces []Piece
	piece, behind, ok := readPiece(s, at)
	for ok {
		pieces = append(pieces, piece)
		at = behind
		piece, behind, ok = readPiece(s, at)
	}
	return pieces, at
}

func readPiece(s string, at int) (Piece, int, bool) {
	if expression.Stands(s, at, '&') {
		return Piece{Matched: true}, at + 1, true
	}
	c, next, ok := expression.Byte(s, at, "/")
	return Piece{Byte: c}, next, ok
}

// readFlags reads what stands behind the last slash, and tells whether there is nothing else.
func (s *Substitution) readFlags(rest string, at int) bool {
	digit := digitAt(rest, at)
	if digit > 0 {
		s.Count = digit
		at++
	}
	if expression.Stands(rest, at, 'g') {
		s.All = true
		at++
	}
	if expression.Stands(rest, at, 'p') {
		s.Print = true
		at++
	}
	return at == len(rest)
}
