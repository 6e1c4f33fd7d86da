// Package commands reads scripts into their commands.
package commands

import "retrace/expression"

// Script is the commands of a script, in their order.
type Script struct {
	Commands []Command
}

// Command is one line of a script that is not empty. Which of its parts say something hangs on its name.
type Command struct {
	Addresses    Addresses
	Name         byte
	Label        byte         // of `:`, `b` and `t`; 0, if there is none
	Next         int          // of `{`, `b` and `t`: the command with which it is gone on from there
	Text         string       // of `a`, `i` and `c`
	Substitution Substitution // of `s`
	Exchange     Exchange     // of `y`
}

// Read answers the script that a text is, and whether it is one.
func Read(text string) (Script, bool) {
	var s Script
	for at := 0; at < len(text); {
		end := lineEnd(text, at)
		if end > at {
			c, ok := readCommand(text[at:end])
			if !ok {
				return Script{}, false
			}
			s.Commands = append(s.Commands, c)
		}
		at = end + 1
	}
	paired := s.pairBrackets()
	led := s.leadToLabels()
	if !paired || !led {
		return Script{}, false
	}
	return s, true
}

// lineEnd answers the place of the first newline from a place on, or the text's end.
func lineEnd(text string, at int) int {
	for at < len(text) && !expression.Stands(text, at, '\n') {
		at++
	}
	return at
}

// pairBrackets leads each `{` behind its `}`, and tells whether none of both is alone.
func (s *Script) pairBrackets() bool {
	var open []int
	for i := range s.Commands {
		switch s.Commands[i].Name {
		case '{':
			open = append(open, i)
		case '}':
			last := len(open) - 1
			if last < 0 {
				return false
			}
			s.Commands[open[last]].Next = i + 1
			open = open[:last]
		}
	}
	return len(open) == 0
}

// leadToLabels leads each `b` and `t` behind its label, or behind the last command, and tells whether each label that is asked for is there and none is there twice.
func (s *Script) leadToLabels() bool {
	for i := range s.Commands {
		label := s.Commands[i].Label
		behind := s.behindLabel(label)
		switch s.Commands[i].Name {
		case ':':
			if behind != i+1 {
				return false
			}
		case 'b', 't':
			if label != 0 && behind == 0 {
				return false
			}
			if label == 0 {
				behind = len(s.Commands)
			}
			s.Commands[i].Next = behind
		}
	}
	return true
}

// behindLabel answers the place behind the first `:` with a label; 0, if there is none.
func (s *Script) behindLabel(label byte) int {
	for i := range s.Commands {
		if s.Commands[i].Name == ':' && s.Commands[i].Label == label {
			return i + 1
		}
	}
	return 0
}
