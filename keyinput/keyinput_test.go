package keyinput

import (
	"slices"
	"strings"
	"testing"

	"narrator/api"
)

var (
	plain       = api.Modes{}
	application = api.Modes{Application: true}
	newLine     = api.Modes{NewLine: true}
	both        = api.Modes{Application: true, NewLine: true}
)

// P14.1: the chapter's examples, and keys of each row of its table.
func TestEncodings(t *testing.T) {
	for _, c := range []struct {
		k    api.Key
		m    api.Modes
		want string
	}{
		{api.Key{Name: "Up"}, plain, "\x1b[A"},
		{api.Key{Name: "Up"}, application, "\x1bOA"},
		{api.Key{Name: "Up", Control: true}, plain, "\x1b[1;5A"},
		{api.Key{Name: "Up", Control: true}, application, "\x1b[1;5A"},
		{api.Key{Name: "Down"}, both, "\x1bOB"},
		{api.Key{Name: "Right", Shift: true}, plain, "\x1b[1;2C"},
		{api.Key{Name: "Left", Alt: true}, plain, "\x1b[1;3D"},
		{api.Key{Name: "End"}, newLine, "\x1b[F"},
		{api.Key{Name: "Home", Shift: true, Alt: true, Control: true}, plain, "\x1b[1;8H"},
		{api.Key{Name: "Insert"}, plain, "\x1b[2~"},
		{api.Key{Name: "Delete", Shift: true}, application, "\x1b[3;2~"},
		{api.Key{Name: "PageUp", Control: true, Shift: true}, plain, "\x1b[5;6~"},
		{api.Key{Name: "PageDown"}, application, "\x1b[6~"},
		{api.Key{Name: "F1"}, plain, "\x1bOP"},
		{api.Key{Name: "F2"}, application, "\x1bOQ"},
		{api.Key{Name: "F3", Control: true, Alt: true}, plain, "\x1b[1;7R"},
		{api.Key{Name: "F4", Shift: true, Alt: true}, plain, "\x1b[1;4S"},
		{api.Key{Name: "F5"}, plain, "\x1b[15~"},
		{api.Key{Name: "F6"}, plain, "\x1b[17~"},
		{api.Key{Name: "F7"}, plain, "\x1b[18~"},
		{api.Key{Name: "F8"}, plain, "\x1b[19~"},
		{api.Key{Name: "F9"}, plain, "\x1b[20~"},
		{api.Key{Name: "F10"}, plain, "\x1b[21~"},
		{api.Key{Name: "F11"}, plain, "\x1b[23~"},
		{api.Key{Name: "F12", Control: true}, plain, "\x1b[24;5~"},
		{api.Key{Name: "Tab"}, both, "\t"},
		{api.Key{Name: "Tab", Shift: true}, both, "\x1b[Z"},
		{api.Key{Name: "Tab", Alt: true}, both, "\x1b\t"},
		{api.Key{Name: "Enter"}, application, "\r"},
		{api.Key{Name: "Enter"}, newLine, "\r\n"},
		{api.Key{Name: "Enter", Alt: true}, plain, "\x1b\r"},
		{api.Key{Name: "Enter", Alt: true}, both, "\x1b\r\n"},
		{api.Key{Name: "Escape"}, both, "\x1b"},
		{api.Key{Name: "Escape", Alt: true}, both, "\x1b\x1b"},
		{api.Key{Name: "Backspace"}, both, "\x7f"},
		{api.Key{Name: "Backspace", Alt: true}, both, "\x1b\x7f"},
		{api.Key{Rune: 'a'}, both, "a"},
		{api.Key{Rune: 'a', Alt: true}, plain, "\x1ba"},
		{api.Key{Rune: 'a', Control: true}, plain, "\x01"},
		{api.Key{Rune: 'z', Control: true, Alt: true}, plain, "\x1b\x1a"},
		{api.Key{Rune: ' '}, plain, " "},
		{api.Key{Rune: '~', Alt: true}, plain, "\x1b~"},
		{api.Key{Rune: '[', Alt: true}, plain, "\x1b["},
		{api.Key{Rune: 0xA0}, plain, "\xc2\xa0"},
		{api.Key{Rune: 0x301, Alt: true}, plain, "\x1b\xcc\x81"},
		{api.Key{Rune: 0x6F22}, plain, "\xe6\xbc\xa2"},
		{api.Key{Rune: 0xFFFD}, plain, "\xef\xbf\xbd"},
		{api.Key{Rune: 0x10FFFF}, plain, "\xf4\x8f\xbf\xbf"},
	} {
		if e := Check(c.k); e != api.OK {
			t.Errorf("Check(%v) = %d", c.k, e)
		}
		if got, e := Encode(c.k, c.m); got != c.want || e != api.OK {
			t.Errorf("Encode(%v) = %q, %d, not %q", c.k, got, e, c.want)
		}
		if k, n, e := Decode(c.want, c.m); k != c.k || n != len(c.want) || e != api.OK {
			t.Errorf("Decode(%q) = %v, %d, %d, not %v", c.want, k, n, e, c.k)
		}
	}
}

// P14.1: keys that are not as described.
func TestInvalidKeys(t *testing.T) {
	for _, c := range []struct {
		k    api.Key
		want api.Errno
	}{
		{api.Key{}, api.ErrArgument},
		{api.Key{Rune: 'a', Shift: true}, api.ErrArgument},
		{api.Key{Rune: 'A', Shift: true}, api.ErrArgument},
		{api.Key{Rune: 'a', Shift: true, Control: true}, api.ErrArgument},
		{api.Key{Rune: 'i', Control: true}, api.ErrArgument},
		{api.Key{Rune: 'm', Control: true, Alt: true}, api.ErrArgument},
		{api.Key{Rune: 'A', Control: true}, api.ErrArgument},
		{api.Key{Rune: '`', Control: true}, api.ErrArgument},
		{api.Key{Rune: '{', Control: true}, api.ErrArgument},
		{api.Key{Rune: 1, Control: true}, api.ErrArgument},
		{api.Key{Rune: 'a' + 256, Control: true}, api.ErrArgument},
		{api.Key{Rune: 0x1B}, api.ErrArgument},
		{api.Key{Rune: 0x7F}, api.ErrArgument},
		{api.Key{Rune: 0x9F, Alt: true}, api.ErrArgument},
		{api.Key{Rune: -1}, api.ErrArgument},
		{api.Key{Rune: 0xD800}, api.ErrArgument},
		{api.Key{Rune: 0xDFFF, Alt: true}, api.ErrArgument},
		{api.Key{Rune: 0x110000}, api.ErrArgument},
		{api.Key{Name: "Up", Rune: 'a'}, api.ErrArgument},
		{api.Key{Name: "F1", Rune: -1}, api.ErrArgument},
		{api.Key{Name: "Tab", Rune: 9}, api.ErrArgument},
		{api.Key{Name: "Tab", Control: true}, api.ErrArgument},
		{api.Key{Name: "Tab", Shift: true, Alt: true}, api.ErrArgument},
		{api.Key{Name: "Enter", Shift: true}, api.ErrArgument},
		{api.Key{Name: "Enter", Control: true}, api.ErrArgument},
		{api.Key{Name: "Escape", Alt: true, Shift: true}, api.ErrArgument},
		{api.Key{Name: "Backspace", Alt: true, Control: true}, api.ErrArgument},
		{api.Key{Name: "up"}, api.ErrName},
		{api.Key{Name: "UP"}, api.ErrName},
		{api.Key{Name: "Up "}, api.ErrName},
		{api.Key{Name: " "}, api.ErrName},
		{api.Key{Name: "F0"}, api.ErrName},
		{api.Key{Name: "F13"}, api.ErrName},
		{api.Key{Name: "F"}, api.ErrName},
		{api.Key{Name: "Page"}, api.ErrName},
		{api.Key{Name: "Pageup"}, api.ErrName},
		{api.Key{Name: "a"}, api.ErrName},
		{api.Key{Name: "\x1b"}, api.ErrName},
		{api.Key{Name: "Return"}, api.ErrName},
		{api.Key{Name: "\xff\x00"}, api.ErrName},
		{api.Key{Name: strings.Repeat("Up", 1000)}, api.ErrName},
		{api.Key{Name: "nothing", Rune: -5, Shift: true, Alt: true, Control: true}, api.ErrName},
	} {
		if e := Check(c.k); e != c.want {
			t.Errorf("Check(%v) = %d, not %d", c.k, e, c.want)
		}
		if got, e := Encode(c.k, plain); got != "" || e != c.want {
			t.Errorf("Encode(%v) = %q, %d, not %d", c.k, got, e, c.want)
		}
	}
}

// P14.1: inputs of which a shorter and a longer beginning is an encoding, and where the longer one is cut short.
func TestLongestBeginning(t *testing.T) {
	altBracket, altO, escaped := api.Key{Rune: '[', Alt: true}, api.Key{Rune: 'O', Alt: true}, api.Key{Name: "Escape"}
	for _, c := range []struct {
		s    string
		m    api.Modes
		want api.Key
		size int
	}{
		{"abc", plain, api.Key{Rune: 'a'}, 1},
		{"\x1b", plain, escaped, 1},
		{"\x1b\x1b", plain, api.Key{Name: "Escape", Alt: true}, 2},
		{"\x1b\x1b[A", plain, api.Key{Name: "Escape", Alt: true}, 2},
		{"\x1b[", plain, altBracket, 2},
		{"\x1b[[A", plain, altBracket, 2},
		{"\x1b[1", plain, altBracket, 2},
		{"\x1b[1;", plain, altBracket, 2},
		{"\x1b[1;5", plain, altBracket, 2},
		{"\x1b[1;5A", plain, api.Key{Name: "Up", Control: true}, 6},
		{"\x1b[1;5AB", plain, api.Key{Name: "Up", Control: true}, 6},
		{"\x1b[1;5a", plain, altBracket, 2},
		{"\x1b[1;5~", plain, altBracket, 2},
		{"\x1b[1;1A", plain, altBracket, 2},
		{"\x1b[1;0A", plain, altBracket, 2},
		{"\x1b[1;9A", plain, altBracket, 2},
		{"\x1b[1;10A", plain, altBracket, 2},
		{"\x1b[1;05A", plain, altBracket, 2},
		{"\x1b[1;-5A", plain, altBracket, 2},
		{"\x1b[1;;5A", plain, altBracket, 2},
		{"\x1b[1;5;A", plain, altBracket, 2},
		{"\x1b[01;5A", plain, altBracket, 2},
		{"\x1b[2;5A", plain, altBracket, 2},
		{"\x1b[;5A", plain, altBracket, 2},
		{"\x1b[1A", plain, altBracket, 2},
		{"\x1b[0A", plain, altBracket, 2},
		{"\x1b[;A", plain, altBracket, 2},
		{"\x1b[1;A", plain, altBracket, 2},
		{"\x1b[E", plain, altBracket, 2},
		{"\x1b[A", plain, api.Key{Name: "Up"}, 3},
		{"\x1b[A", application, altBracket, 2},
		{"\x1bOA", plain, altO, 2},
		{"\x1bOA", application, api.Key{Name: "Up"}, 3},
		{"\x1bO1;5A", application, altO, 2},
		{"\x1bO5A", application, altO, 2},
		{"\x1bO", application, altO, 2},
		{"\x1bOP", plain, api.Key{Name: "F1"}, 3},
		{"\x1b[P", plain, altBracket, 2},
		{"\x1bOZ", plain, altO, 2},
		{"\x1bO2~", plain, altO, 2},
		{"\x1b[Z", plain, api.Key{Name: "Tab", Shift: true}, 3},
		{"\x1b[1;2Z", plain, altBracket, 2},
		{"\x1b[2~", plain, api.Key{Name: "Insert"}, 4},
		{"\x1b[2;2~~", plain, api.Key{Name: "Insert", Shift: true}, 6},
		{"\x1b[02~", plain, altBracket, 2},
		{"\x1b[2;02~", plain, altBracket, 2},
		{"\x1b[2;1~", plain, altBracket, 2},
		{"\x1b[2;9~", plain, altBracket, 2},
		{"\x1b[2;~", plain, altBracket, 2},
		{"\x1b[2;2;2~", plain, altBracket, 2},
		{"\x1b[1~", plain, altBracket, 2},
		{"\x1b[4~", plain, altBracket, 2},
		{"\x1b[16~", plain, altBracket, 2},
		{"\x1b[22~", plain, altBracket, 2},
		{"\x1b[25~", plain, altBracket, 2},
		{"\x1b[~", plain, altBracket, 2},
		{"\x1b[;2~", plain, altBracket, 2},
		{"\x1b[15", plain, altBracket, 2},
		{"\x1b[15~", plain, api.Key{Name: "F5"}, 5},
		{"\x1b[24;8~x", plain, api.Key{Name: "F12", Shift: true, Alt: true, Control: true}, 7},
		{"\x1b[99999999999999999999;2~", plain, altBracket, 2},
		{"\x1b[1;99999999999999999999A", plain, altBracket, 2},
		{"\x1b[1;4294967298A", plain, altBracket, 2},
		{"\x1b[1;18446744073709551618A", plain, altBracket, 2},
		{"\x1b[" + strings.Repeat("1", 10000) + "A", plain, altBracket, 2},
		{"\x1b[" + strings.Repeat("1", 10000), plain, altBracket, 2},
		{"\x1b[\xff", plain, altBracket, 2},
		{"\x1b[\x1b[A", plain, altBracket, 2},
		{"\x1b\xe2", plain, escaped, 1},
		{"\x1b\xe2\x82", plain, escaped, 1},
		{"\x1b\xe2\x82\xac", plain, api.Key{Rune: 0x20AC, Alt: true}, 4},
		{"\x1b\xff", plain, escaped, 1},
		{"\x1b\x00", plain, escaped, 1},
		{"\x1b\x1c", plain, escaped, 1},
		{"\x1b\xc2\x9b", plain, escaped, 1},
		{"\x1b\r", plain, api.Key{Name: "Enter", Alt: true}, 2},
		{"\x1b\r\n", plain, api.Key{Name: "Enter", Alt: true}, 2},
		{"\x1b\r", newLine, escaped, 1},
		{"\x1b\ra", newLine, escaped, 1},
		{"\x1b\r\n", newLine, api.Key{Name: "Enter", Alt: true}, 3},
		{"\x1b\n", newLine, api.Key{Rune: 'j', Control: true, Alt: true}, 2},
		{"\r\n", plain, api.Key{Name: "Enter"}, 1},
		{"\r\n\n", newLine, api.Key{Name: "Enter"}, 2},
		{"\n", newLine, api.Key{Rune: 'j', Control: true}, 1},
		{"\b", plain, api.Key{Rune: 'h', Control: true}, 1},
		{"\t", plain, api.Key{Name: "Tab"}, 1},
		{"a\xcc\x81", plain, api.Key{Rune: 'a'}, 1},
		{"\xcc\x81a", plain, api.Key{Rune: 0x301}, 2},
		{"\xef\xbf\xbd\xff", plain, api.Key{Rune: 0xFFFD}, 3},
		{"x" + strings.Repeat("\x00", 1000), plain, api.Key{Rune: 'x'}, 1},
	} {
		if k, n, e := Decode(c.s, c.m); k != c.want || n != c.size || e != api.OK {
			t.Errorf("Decode(%.40q) = %v, %d, %d, not %v, %d", c.s, k, n, e, c.want, c.size)
		}
	}
}

// P14.1: inputs that begin with no key.
func TestNoKey(t *testing.T) {
	for _, c := range []struct {
		s    string
		m    api.Modes
		want api.Errno
	}{
		{"", plain, api.ErrShort},
		{"", both, api.ErrShort},
		{"\r", newLine, api.ErrShort},
		{"\r\r\n", newLine, api.ErrSyntax},
		{"\ra", newLine, api.ErrSyntax},
		{"\r\x1b", both, api.ErrSyntax},
		{"\xc2", plain, api.ErrShort},
		{"\xe2", plain, api.ErrShort},
		{"\xe2\x82", plain, api.ErrShort},
		{"\xe0\xa0", plain, api.ErrShort},
		{"\xed\x9f", plain, api.ErrShort},
		{"\xf0\x9f", plain, api.ErrShort},
		{"\xf0\x9f\x98", plain, api.ErrShort},
		{"\xf4\x8f\xbf", plain, api.ErrShort},
		{"\xc2\x85", plain, api.ErrSyntax},
		{"\xc2\x9b[A", plain, api.ErrSyntax},
		{"\xc2a", plain, api.ErrSyntax},
		{"\xe2\x82a", plain, api.ErrSyntax},
		{"\xe2\xe2", plain, api.ErrSyntax},
		{"\xe0\x9f", plain, api.ErrSyntax},
		{"\xed\xa0", plain, api.ErrSyntax},
		{"\xf0\x8f", plain, api.ErrSyntax},
		{"\xf4\x90", plain, api.ErrSyntax},
		{"\xc0\x80", plain, api.ErrSyntax},
		{"\xc1", plain, api.ErrSyntax},
		{"\xf5", plain, api.ErrSyntax},
		{"\xff", plain, api.ErrSyntax},
		{"\x80", plain, api.ErrSyntax},
		{"\xbf\xe2", plain, api.ErrSyntax},
		{"\x00", plain, api.ErrSyntax},
		{"\x00\x1b[A", plain, api.ErrSyntax},
		{"\x1c", plain, api.ErrSyntax},
		{"\x1d", plain, api.ErrSyntax},
		{"\x1e", plain, api.ErrSyntax},
		{"\x1f", plain, api.ErrSyntax},
	} {
		if k, n, e := Decode(c.s, c.m); k != (api.Key{}) || n != 0 || e != c.want {
			t.Errorf("Decode(%q) = %v, %d, %d, not %d", c.s, k, n, e, c.want)
		}
	}
}

// P14.1: the names in their order, in new memory.
func TestNames(t *testing.T) {
	want := strings.Fields(chapterNames)
	got := Names()
	if !slices.Equal(got, want) {
		t.Fatalf("Names() = %v", got)
	}
	for i := range got {
		got[i] = "overwritten"
	}
	if !slices.Equal(Names(), want) {
		t.Fatal("the result of Names is shared")
	}
	for _, name := range want {
		if Check(api.Key{Name: name}) != api.OK {
			t.Errorf("%s is no key", name)
		}
	}
}
