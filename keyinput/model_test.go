package keyinput

import (
	"fmt"
	"math/rand"
	"strings"
	"sync"

	"narrator/api"
)

// model is the chapter's table in some modes, written out: all named keys and their encodings, both ways.
type model struct {
	modes     api.Modes
	encodings map[api.Key]string
	keys      map[string]api.Key
}

// chapterNames is the chapter's list of names.
const chapterNames = "Up Down Right Left Home End Insert Delete PageUp PageDown Tab Enter Escape Backspace F1 F2 F3 F4 F5 F6 F7 F8 F9 F10 F11 F12"

// numbered returns the key with a name and a modifier number.
func numbered(name string, number int) api.Key {
	return api.Key{Name: name, Shift: (number-1)%2 == 1, Alt: (number-1)/2%2 == 1, Control: (number-1)/4 == 1}
}

// newModel writes out the table.
func newModel(m api.Modes) model {
	x := model{m, map[api.Key]string{}, map[string]api.Key{}}
	for i, name := range strings.Fields("Up Down Right Left End Home") {
		x.addModified(name, "\x1b[1;%d"+"ABCDFH"[i:i+1])
		x.add(api.Key{Name: name}, "\x1b["+"ABCDFH"[i:i+1])
		if m.Application {
			x.add(api.Key{Name: name}, "\x1bO"+"ABCDFH"[i:i+1])
		}
	}
	numbers := strings.Fields("2 3 5 6 15 17 18 19 20 21 23 24")
	for i, name := range strings.Fields("Insert Delete PageUp PageDown F5 F6 F7 F8 F9 F10 F11 F12") {
		x.addModified(name, "\x1b["+numbers[i]+";%d~")
		x.add(api.Key{Name: name}, "\x1b["+numbers[i]+"~")
	}
	for i, name := range strings.Fields("F1 F2 F3 F4") {
		x.addModified(name, "\x1b[1;%d"+"PQRS"[i:i+1])
		x.add(api.Key{Name: name}, "\x1bO"+"PQRS"[i:i+1])
	}
	x.add(api.Key{Name: "Tab", Shift: true}, "\x1b[Z")
	enter := "\r"
	if m.NewLine {
		enter = "\r\n"
	}
	for name, bytes := range map[string]string{"Tab": "\t", "Enter": enter, "Escape": "\x1b", "Backspace": "\x7f"} {
		x.add(api.Key{Name: name}, bytes)
		x.add(api.Key{Name: name, Alt: true}, "\x1b"+bytes)
	}
	for k, bytes := range x.encodings {
		x.keys[bytes] = k
	}
	return x
}

func (x model) add(k api.Key, bytes string) { x.encodings[k] = bytes }

// addModified adds the keys with a name and each number of modifiers, which the format contains.
func (x model) addModified(name, format string) {
	for number := 2; number <= 8; number++ {
		x.add(numbered(name, number), fmt.Sprintf(format, number))
	}
}

// models returns the table in all modes that affect it.
func models() []model {
	return []model{
		newModel(api.Modes{}),
		newModel(api.Modes{Application: true}),
		newModel(api.Modes{NewLine: true}),
		newModel(api.Modes{Application: true, NewLine: true}),
	}
}

// chapterCharacter reports whether a key is a character as the chapter describes it.
func chapterCharacter(k api.Key) bool {
	if k.Name != "" || k.Shift {
		return false
	}
	if k.Control {
		for _, letter := range "abcdefghjklnopqrstuvwxyz" {
			if letter == k.Rune {
				return true
			}
		}
		return false
	}
	isControl := k.Rune < 0x20 || 0x7F <= k.Rune && k.Rune <= 0x9F
	isSurrogate := 0xD800 <= k.Rune && k.Rune <= 0xDFFF
	return !isControl && !isSurrogate && k.Rune <= 0x10FFFF
}

// chapterUTF8 returns the well-formed sequence of a character.
func chapterUTF8(r rune) string {
	next := func(shift int) byte { return 0x80 | byte(r>>shift&0x3F) }
	switch {
	case r < 0x80:
		return string([]byte{byte(r)})
	case r < 0x800:
		return string([]byte{0xC0 | byte(r>>6), next(0)})
	case r < 0x10000:
		return string([]byte{0xE0 | byte(r>>12), next(6), next(0)})
	}
	return string([]byte{0xF0 | byte(r>>18), next(12), next(6), next(0)})
}

func (x model) check(k api.Key) api.Errno {
	if _, named := x.encodings[k]; named || chapterCharacter(k) {
		return api.OK
	}
	if _, named := x.encodings[api.Key{Name: k.Name}]; named || k.Name == "" {
		return api.ErrArgument
	}
	return api.ErrName
}

func (x model) encode(k api.Key) (string, api.Errno) {
	if e := x.check(k); e != api.OK {
		return "", e
	}
	if bytes, named := x.encodings[k]; named {
		return bytes, api.OK
	}
	bytes := chapterUTF8(k.Rune)
	if k.Control {
		bytes = string([]byte{byte(k.Rune - 'a' + 1)})
	}
	if k.Alt {
		bytes = "\x1b" + bytes
	}
	return bytes, api.OK
}

// keyOf returns the key whose encoding is the whole string.
func (x model) keyOf(s string) (api.Key, bool) {
	if k, named := x.keys[s]; named {
		return k, true
	}
	rest, alt := strings.CutPrefix(s, "\x1b")
	for _, k := range []api.Key{{Alt: alt}, {Alt: alt, Control: true}} {
		for _, r := range rest {
			k.Rune = r
			if k.Control {
				k.Rune = 'a' - 1 + r
			}
			if bytes, e := x.encode(k); e == api.OK && bytes == s {
				return k, true
			}
		}
	}
	return api.Key{}, false
}

// characterBeginnings are the proper beginnings of the encodings of all characters.
var characterBeginnings = sync.OnceValue(func() map[string]bool {
	beginnings := map[string]bool{}
	for r := rune(0); r <= 0x10FFFF; r++ {
		bytes := chapterUTF8(r)
		for cut := range len(bytes) {
			if chapterCharacter(api.Key{Rune: r}) {
				beginnings[bytes[:cut]] = true
			}
		}
	}
	return beginnings
})

// beginsKey reports whether a string is a proper beginning of the encoding of a key.
func (x model) beginsKey(s string) bool {
	for bytes := range x.keys {
		if bytes != s && strings.HasPrefix(bytes, s) {
			return true
		}
	}
	rest, _ := strings.CutPrefix(s, "\x1b")
	return characterBeginnings()[rest]
}

func (x model) decode(s string) (api.Key, int, api.Errno) {
	for n := min(len(s), 9); n > 0; n-- {
		if k, ok := x.keyOf(s[:n]); ok {
			return k, n, api.OK
		}
	}
	if x.beginsKey(s) {
		return api.Key{}, 0, api.ErrShort
	}
	return api.Key{}, 0, api.ErrSyntax
}

// sampleRunes are characters of every length and kind, and numbers at and beyond the ends of their ranges.
var sampleRunes = []rune{
	-1 << 31, -0x80, -1, 0, 1, 8, 9, 0xA, 0xD, 0x1A, 0x1B, 0x1F, 0x20, '!', '0', '1', '9', ';', 'A', 'H', 'I', 'M', 'O', 'P', 'Z', '[', '`',
	'a', 'b', 'h', 'i', 'j', 'l', 'm', 'n', 'z', '{', '~', 0x7F, 0x80, 0x85, 0x9B, 0x9F, 0xA0, 0xE9, 0xFF, 0x300, 0x36F, 0x7FF, 0x800, 0x20AC, 0x200B, 0x6F22,
	0xD7FF, 0xD800, 0xDC00, 0xDFFF, 0xE000, 0xFE0F, 0xFFFD, 0xFFFE, 0xFFFF, 0x10000, 0x1F600, 0x3FFFD, 0x40000, 0xFFFFF, 0x100000, 0x10FFFF, 0x110000, 1<<31 - 1,
}

// sampleKeys returns all named keys, and the sample characters, with each set of modifiers that they may have.
func (x model) sampleKeys() []api.Key {
	var keys []api.Key
	names := strings.Fields(chapterNames)
	for number := 1; number <= 8; number++ {
		for _, name := range names {
			keys = append(keys, numbered(name, number))
		}
		for _, r := range sampleRunes {
			k := numbered("", number)
			k.Rune = r
			keys = append(keys, k)
		}
	}
	valid := keys[:0]
	for _, k := range keys {
		if x.check(k) == api.OK {
			valid = append(valid, k)
		}
	}
	return valid
}

// otherModes returns modes that only have in common with m what affects encodings.
func otherModes(m api.Modes, random *rand.Rand) api.Modes {
	flip := func() bool { return random.Intn(2) == 0 }
	return api.Modes{
		Insert: flip(), NewLine: m.NewLine, Application: m.Application, Origin: flip(), Wrap: flip(), Visible: flip(), Alternate: flip(), Concealed: flip(),
		Sets: [2]byte{byte(random.Intn(256)), byte(random.Intn(256))}, Shift: random.Intn(1<<20) - 1<<19,
	}
}
