package text

import "gnomon/api"

// Class: P1.2.
func Class(r rune) int {
	switch r {
	case ' ', '\t', '\r':
		return api.ClassSpace
	case '\n':
		return api.ClassLine
	case '0', '1', '2', '3', '4', '5', '6', '7', '8', '9':
		return api.ClassDigit
	case ';', ',', '{', '}', '(', ')', '[', ']', '=', '!', '<', '>', '+', '-', '*', '/', '%', '&', '|':
		return api.ClassSign
	}
	if letter(r) {
		return api.ClassLetter
	}
	return api.ClassOther
}

// letter: the exceptions come first, as they lie within the ranges.
func letter(r rune) bool {
	switch r {
	case 0xd7, 0xf7, 0x3a2:
		return false
	case '_':
		return true
	}
	switch {
	case 'a' <= r && r <= 'z', 'A' <= r && r <= 'Z':
		return true
	case 0xc0 <= r && r <= 0x24f: // Latin
		return true
	case 0x391 <= r && r <= 0x3c9: // Greek
		return true
	case 0x410 <= r && r <= 0x44f: // Cyrillic
		return true
	}
	return false
}
