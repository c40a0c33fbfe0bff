// Package class is layer 2: sorts of characters, and of words. See shared/doc/02-class.md.
package class

import "emend/runes"

// bounds are the first and the last character of a range.
type bounds struct{ from, to rune }

// Letter tells letters.
func Letter(r rune) bool {
	letters := [...]bounds{
		{0x41, 0x5A}, {0x5F, 0x5F}, {0x61, 0x7A}, {0xAA, 0xAA},
		{0xB5, 0xB5}, {0xBA, 0xBA}, {0xC0, 0xD6}, {0xD8, 0xF6},
		{0xF8, 0x2C1}, {0x370, 0x373}, {0x376, 0x377}, {0x37B, 0x37D},
		{0x386, 0x386}, {0x388, 0x38A}, {0x38C, 0x38C}, {0x38E, 0x3A1},
		{0x3A3, 0x3F5}, {0x400, 0x481}, {0x48A, 0x52F}, {0x531, 0x556},
		{0x561, 0x587}, {0x5D0, 0x5EA}, {0x620, 0x64A}, {0x904, 0x939},
		{0xE01, 0xE30}, {0x10A0, 0x10C5}, {0x1E00, 0x1F15}, {0x3041, 0x3096},
		{0x30A1, 0x30FA}, {0x4E00, 0x9FFF}, {0xAC00, 0xD7A3}, {0x10400, 0x1044F},
		{0x20000, 0x2A6DF},
	}
	return within(letters[:], r)
}

// Digit tells digits.
func Digit(r rune) bool {
	digits := [...]bounds{
		{0x30, 0x39}, {0x660, 0x669}, {0x966, 0x96F}, {0xE50, 0xE59}, {0xFF10, 0xFF19},
	}
	return within(digits[:], r)
}

// Blank tells blanks.
func Blank(r rune) bool {
	blanks := [...]bounds{{0x9, 0xA}, {0xD, 0xD}, {0x20, 0x20}}
	return within(blanks[:], r)
}

// Base is what r says as a digit of base 16; -1 if it is none.
func Base(r rune) int {
	switch {
	case '0' <= r && r <= '9':
		return int(r - '0')
	case 'A' <= r && r <= 'F':
		return int(r-'A') + 10
	case 'a' <= r && r <= 'f':
		return int(r-'a') + 10
	}
	return -1
}

// Word tells the language's words.
func Word(s string) bool {
	switch s {
	case "break", "case", "chan", "const", "continue", "default", "defer",
		"else", "fallthrough", "for", "func", "go", "goto", "if", "import",
		"interface", "map", "package", "range", "return", "select", "struct",
		"switch", "type", "var":
		return true
	}
	return false
}

// Name tells names.
func Name(s string) bool {
	if s == "" || runes.Bad(s) >= 0 || Word(s) {
		return false
	}
	for at, r := range s {
		if !Letter(r) && (at == 0 || !Digit(r)) {
			return false
		}
	}
	return true
}

// within tells whether r lies in one of the ranges, which rise.
func within(l []bounds, r rune) bool {
	for _, x := range l {
		if r <= x.to {
			return x.from <= r
		}
	}
	return false
}
