// Package runes is layer 1: characters as bytes (UTF-8). See shared/doc/01-runes.md.
package runes

import "strings"

// substitute is the character that a range over a text hands out where none
// begins; as a character of the text itself it stands there in its own form.
const substitute rune = 0xFFFD

// Read tells the character that begins at the byte number at, and how many
// bytes its form has; 0 and 0 if none begins there.
func Read(s string, at int) (rune, int) {
	if at < 0 || at >= len(s) {
		return 0, 0
	}
	rest := s[at:]
	for _, r := range rest {
		if !begins(rest, r) {
			break
		}
		return r, len(Form(r))
	}
	return 0, 0
}

// Form is the bytes of the character r; the empty text if r is none.
func Form(r rune) string {
	if !character(r) {
		return ""
	}
	return string(r)
}

// Bad is the first place at which no character begins, reading form behind
// form; -1 if there is none.
func Bad(s string) int {
	for at, r := range s {
		if !begins(s[at:], r) {
			return at
		}
	}
	return -1
}

// All tells the characters of a text in order; none and false if the text is
// bad at some place.
func All(s string) ([]rune, bool) {
	var l []rune
	for at, r := range s {
		if !begins(s[at:], r) {
			return nil, false
		}
		l = append(l, r)
	}
	return l, true
}

// Join puts the forms of characters one behind the other; the empty text and
// false if one of them is no character.
func Join(l []rune) (string, bool) {
	var b strings.Builder
	for _, r := range l {
		if !character(r) {
			return "", false
		}
		b.WriteString(Form(r))
	}
	return b.String(), true
}

// begins tells whether r, which a range handed out at the beginning of s, is
// a character of s there, and not the substitute for bytes that are none.
func begins(s string, r rune) bool {
	return r != substitute || strings.HasPrefix(s, Form(substitute))
}

// character tells whether a number is a character.
func character(r rune) bool {
	surrogate := 0xD800 <= r && r <= 0xDFFF
	return 0 <= r && r <= 0x10FFFF && !surrogate
}
