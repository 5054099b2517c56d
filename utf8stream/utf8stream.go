// Package utf8stream decodes and encodes streams of UTF-8. It is layer 1: see shared/doc/01-utf8stream.md.
package utf8stream

import (
	"strings"
	"unicode/utf8"
)

// replacement stands for bytes that are not a well-formed sequence.
const replacement rune = 0xFFFD

// Decode returns the characters of a chunk after pending bytes, and the bytes of an incomplete character at its end.
func Decode(pending, chunk string) ([]rune, string) {
	// Pending bytes may be any bytes, so they are decoded like those of the chunk.
	s := pending + chunk
	var l []rune
	start := 0 // the bytes from start on are those of the incomplete sequence
	for i := range len(s) {
		if start < i && !mayFollow(s[start:i], s[i]) {
			l = append(l, replacement)
			start = i
		}
		length := sequenceLength(s[start])
		if length == 0 {
			l = append(l, replacement)
			start = i + 1
		} else if length == i+1-start {
			r, _ := utf8.DecodeRuneInString(s[start : i+1])
			l = append(l, r)
			start = i + 1
		}
	}
	// A part of the chunk would keep the memory of all of it as long as the bytes are pending.
	return l, strings.Clone(s[start:])
}

// sequenceLength returns the number of bytes of the well-formed sequences that begin with a byte, or 0 if there are none.
func sequenceLength(first byte) int {
	switch {
	case first <= 0x7F:
		return 1
	case 0xC2 <= first && first <= 0xDF:
		return 2
	case 0xE0 <= first && first <= 0xEF:
		return 3
	case 0xF0 <= first && first <= 0xF4:
		return 4
	}
	return 0
}

// mayFollow reports whether a well-formed sequence begins with the bytes of an incomplete one and the byte next.
func mayFollow(incomplete string, next byte) bool {
	low, high := byte(0x80), byte(0xBF)
	first := incomplete[0]
	switch {
	case len(incomplete) > 1:
		// The first byte restricts only the second one.
	case first == 0xE0:
		low = 0xA0 // fewer than three bytes encode what is below
	case first == 0xED:
		high = 0x9F // D800 to DFFF are above
	case first == 0xF0:
		low = 0x90 // fewer than four bytes encode what is below
	case first == 0xF4:
		high = 0x8F // what is above is greater than 10FFFF
	}
	return low <= next && next <= high
}

// Finish returns the characters for the pending bytes at the end of a stream.
func Finish(pending string) []rune {
	l, rest := Decode("", pending)
	if rest != "" {
		l = append(l, replacement)
	}
	return l
}

// Encode returns the UTF-8 bytes of characters.
func Encode(l []rune) string {
	// The conversion writes U+FFFD for numbers that are not characters.
	return string(l)
}

// Valid reports whether a string is valid UTF-8.
func Valid(s string) bool {
	// The well-formed sequences of the document are the only ones that Go accepts.
	return utf8.ValidString(s)
}
