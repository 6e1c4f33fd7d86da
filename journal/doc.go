// Package journal writes and reads journals: the way from a text A to a text B, by which A comes back from B.
package journal
