package lex

import (
	"gnomon/api"
	"gnomon/text"
)

// Word: P2.1.
func Word(s string) bool {
	switch s {
	case "var", "array", "if", "else", "while", "assert", "assume", "skip", "input", "true", "false":
		return true
	}
	return false
}

// Name: P2.1. What isn't UTF-8 needs no look of its own: ranging gives it as U+FFFD, which is no letter.
func Name(s string) bool {
	runes := 0
	for _, c := range s {
		if !inName(c) || runes == 0 && !isLetter(c) || runes == api.MaxName {
			return false
		}
		runes++
	}
	return runes > 0 && !Word(s)
}

// inName: whether a rune may stand in a name behind its first one.
func inName(c rune) bool { return isLetter(c) || isDigit(c) }

func isLetter(c rune) bool { return text.Class(c) == api.ClassLetter }

func isDigit(c rune) bool { return text.Class(c) == api.ClassDigit }
