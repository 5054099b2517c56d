package keyinput

import (
	"strconv"
	"strings"
	"unicode/utf8"

	"narrator/api"
)

// Decode returns the first key of an input, and the number of its bytes.
func Decode(s string, m api.Modes) (api.Key, int, api.Errno) {
	longest, size := api.Key{}, 0
	for _, k := range candidates(s) {
		bytes, _ := Encode(k, m)
		if len(bytes) > size && strings.HasPrefix(s, bytes) {
			longest, size = k, len(bytes)
		}
	}
	switch {
	case size > 0:
		return longest, size, api.OK
	case isBeginning(s, m):
		return api.Key{}, 0, api.ErrShort
	}
	return api.Key{}, 0, api.ErrSyntax
}

// candidates returns the keys whose encodings the input may begin with. Some of them may be invalid or have other encodings.
func candidates(s string) []api.Key {
	keys := shortKeys(s, false)
	rest, escaped := strings.CutPrefix(s, escape)
	if !escaped {
		return keys
	}
	keys = append(keys, shortKeys(rest, true)...)
	if strings.HasPrefix(s, csi) || strings.HasPrefix(s, escapeO) {
		keys = append(keys, sequenceKeys(s[len(csi):])...)
	}
	return keys
}

// shortKeys returns the candidates that are encoded as one character, or two in case of Enter, but for the byte that stands for Alt.
func shortKeys(s string, alt bool) []api.Key {
	r, _ := utf8.DecodeRuneInString(s)
	return []api.Key{
		{Name: "Tab", Alt: alt},
		{Name: "Enter", Alt: alt},
		{Name: "Escape", Alt: alt},
		{Name: "Backspace", Alt: alt},
		{Rune: r, Alt: alt},
		{Rune: r + 'a' - 1, Alt: alt, Control: true},
	}
}

// sequenceKeys returns the candidates that are encoded as a sequence, of which s is what follows its first two bytes.
func sequenceKeys(s string) []api.Key {
	code := strings.TrimLeft(s, "0123456789;")
	if code == "" {
		return nil
	}
	number, modifiers, _ := strings.Cut(s[:len(s)-len(code)], ";")
	code = code[:1]
	if code == "~" {
		code = number
	}
	// The codes are all different, so that their order does not matter.
	for name, c := range codes() {
		if c == code {
			return []api.Key{withModifiers(name, modifiers)}
		}
	}
	return nil
}

// withModifiers returns the key with a name and the modifiers that a part of a sequence stands for.
func withModifiers(name, modifiers string) api.Key {
	if name == "Tab" {
		return api.Key{Name: name, Shift: true}
	}
	n, _ := strconv.Atoi(modifiers)
	bits := max(n, 1) - 1
	return api.Key{Name: name, Shift: bits&1 != 0, Alt: bits&2 != 0, Control: bits&4 != 0}
}

// isBeginning reports whether an input that begins with no encoding is a proper beginning of one. It does not begin with that of Escape, so that only Enter and characters are left; every character that is cut short can be completed as one that is a key.
func isBeginning(s string, m api.Modes) bool {
	enter := encoding(api.Key{Name: "Enter"}, m)
	return strings.HasPrefix(enter, s) || !utf8.FullRuneInString(s)
}
