package keyinput

import (
	"math/rand"
	"strings"
	"testing"

	"narrator/api"
)

// compareEncode compares Check and Encode with the chapter.
func compareEncode(t *testing.T, x model, k api.Key) {
	t.Helper()
	want, wantError := x.encode(k)
	if e := Check(k); e != wantError {
		t.Fatalf("Check(%v) = %d, not %d", k, e, wantError)
	}
	if got, e := Encode(k, x.modes); got != want || e != wantError {
		t.Fatalf("Encode(%v, %v) = %q, %d, not %q, %d", k, x.modes, got, e, want, wantError)
	}
}

// compareDecode compares Decode with the chapter.
func compareDecode(t *testing.T, x model, s string) {
	t.Helper()
	want, wantSize, wantError := x.decode(s)
	if k, n, e := Decode(s, x.modes); k != want || n != wantSize || e != wantError {
		t.Fatalf("Decode(%q, %v) = %v, %d, %d, not %v, %d, %d", s, x.modes, k, n, e, want, wantSize, wantError)
	}
}

// P14.1: every name, and others, with every set of modifiers and with and without a character.
func TestEachName(t *testing.T) {
	names := strings.Fields(chapterNames)
	for _, name := range strings.Fields(chapterNames) {
		names = append(names, strings.ToLower(name), strings.ToUpper(name), name+"1", name[1:], " "+name, name[:len(name)-1])
	}
	for _, x := range models() {
		for _, name := range append(names, "") {
			for number := 1; number <= 8; number++ {
				for _, r := range []rune{0, 'a', 9, 13, 27, 0x7F, -1, 0xD800, 0x10FFFF} {
					k := numbered(name, number)
					k.Rune = r
					compareEncode(t, x, k)
				}
			}
		}
	}
}

// P14.1: every number as a character, with and without Alt.
func TestEachRune(t *testing.T) {
	x := newModel(api.Modes{})
	for r := rune(-300); r < 0x110400; r++ {
		compareEncode(t, x, api.Key{Rune: r})
		compareEncode(t, x, api.Key{Rune: r, Alt: true})
	}
}

// P14.1: characters with every set of modifiers, in all modes.
func TestModifiedRunes(t *testing.T) {
	for _, x := range models() {
		for number := 1; number <= 8; number++ {
			k := numbered("", number)
			for k.Rune = -300; k.Rune < 600; k.Rune++ {
				compareEncode(t, x, k)
			}
			for _, k.Rune = range sampleRunes {
				compareEncode(t, x, k)
			}
		}
	}
}

// P14.1: all inputs of one and two bytes, and those of three bytes that begin with an escape.
func TestShortInputs(t *testing.T) {
	for _, x := range models() {
		for first := range 256 {
			compareDecode(t, x, string([]byte{byte(first)}))
			for second := range 256 {
				compareDecode(t, x, string([]byte{byte(first), byte(second)}))
				compareDecode(t, x, string([]byte{0x1B, byte(first), byte(second)}))
			}
		}
	}
}

// P14.1: all inputs of up to four bytes that are at the ends of the ranges of UTF-8.
func TestBytesOfCharacters(t *testing.T) {
	const bytes = "a\x00\x1b\x7f\x80\x8f\x90\x9f\xa0\xbf\xc1\xc2\xdf\xe0\xe1\xec\xed\xee\xef\xf0\xf1\xf3\xf4\xf5\xff"
	x := newModel(api.Modes{})
	var each func(s string, n int)
	each = func(s string, n int) {
		compareDecode(t, x, s)
		for i := range len(bytes) {
			if n > 0 {
				each(s+bytes[i:i+1], n-1)
			}
		}
	}
	each("", 3)
	each("\x1b", 2)
	for _, lead := range []string{"\xf0\x90", "\xf0\x8f", "\xf1\x80", "\xf4\x8f", "\xf4\x90"} {
		each(lead, 2)
	}
}

// P14.1: all sequences with up to four bytes of parameters, and every final byte.
func TestSequences(t *testing.T) {
	const parameters = "012358;"
	for _, x := range models()[:2] {
		var each func(s string, n int)
		each = func(s string, n int) {
			for _, end := range []string{"", "~", "A", "H", "P", "S", "Z", "a", "O", "\x1b", "\xff", "~~", "A1"} {
				compareDecode(t, x, s+end)
			}
			for i := range len(parameters) {
				if n > 0 {
					each(s+parameters[i:i+1], n-1)
				}
			}
		}
		each("\x1b[", 4)
		each("\x1bO", 3)
		for final := range 256 {
			for _, s := range []string{"\x1b[", "\x1bO", "\x1b[1;2", "\x1b[1;8", "\x1b[3", "\x1b[24;5"} {
				compareDecode(t, x, s+string([]byte{byte(final)}))
			}
		}
	}
}

// P14.1: numbers of one and two digits that keys have or not, with and without numbers of modifiers.
func TestNumbers(t *testing.T) {
	digits := "0123456789"
	for _, x := range models()[:2] {
		for _, tens := range strings.Split(digits, "") {
			for _, ones := range strings.Split(digits, "") {
				compareDecode(t, x, "\x1b["+ones+";"+tens+"~")
				compareDecode(t, x, "\x1b[1;"+tens+ones+"A")
				compareDecode(t, x, "\x1b[1;"+ones+"F")
				compareDecode(t, x, "\x1b["+tens+ones+"~")
				for _, modifiers := range strings.Split(digits, "") {
					compareDecode(t, x, "\x1b["+tens+ones+";"+modifiers+"~")
				}
			}
		}
	}
}

// P14.1: every beginning of every encoding, alone and followed by other bytes and by other encodings.
func TestBeginnings(t *testing.T) {
	for _, x := range models() {
		var tails []string
		for i, k := range x.sampleKeys() {
			if bytes, _ := x.encode(k); i%11 == 0 {
				tails = append(tails, bytes)
			}
		}
		tails = append(tails, "", "\x00", "\xff", "\x80", "~", ";", "\xe2\x82")
		for _, k := range x.sampleKeys() {
			bytes, _ := x.encode(k)
			for cut := range len(bytes) + 1 {
				for _, tail := range tails {
					compareDecode(t, x, bytes[:cut]+tail)
				}
			}
		}
	}
}

// P14.1: random inputs of the bytes that encodings consist of.
func TestRandomInputs(t *testing.T) {
	random := rand.New(rand.NewSource(14))
	const bytes = "\x1b\x1b\x1b[[O0112223456789;;;~~ABCDFHPQRSZ\r\n\t\x7f\x01\x00a\xc2\xe2\x82\xac\xf0\x9f\x98\x80"
	all := models()
	for range 200000 {
		input := []byte("\x1b["[:random.Intn(3)])
		for range random.Intn(10) {
			input = append(input, bytes[random.Intn(len(bytes))])
		}
		compareDecode(t, all[random.Intn(len(all))], string(input))
	}
}

// P14.2: every named key and every character comes back, whatever modifiers it has; so different keys have different encodings.
func TestRoundTrip(t *testing.T) {
	for _, x := range models() {
		for _, k := range x.sampleKeys() {
			compareRoundTrip(t, k, x.modes)
		}
	}
	for r := rune(0x20); r < 0x10FFFF; r++ {
		if k := (api.Key{Rune: r, Alt: r%2 == 0}); chapterCharacter(k) {
			compareRoundTrip(t, k, plain)
		}
	}
}

func compareRoundTrip(t *testing.T, k api.Key, m api.Modes) {
	t.Helper()
	bytes, e := Encode(k, m)
	if e != api.OK || bytes == "" {
		t.Fatalf("Encode(%v, %v) = %q, %d", k, m, bytes, e)
	}
	if got, n, e := Decode(bytes, m); got != k || n != len(bytes) || e != api.OK {
		t.Fatalf("Decode(%q, %v) = %v, %d, %d, not %v", bytes, m, got, n, e, k)
	}
}

// P14.2: no two keys have the same encoding.
func TestDifferentEncodings(t *testing.T) {
	for _, x := range models() {
		seen := map[string]api.Key{}
		for _, k := range x.sampleKeys() {
			bytes, _ := Encode(k, x.modes)
			if other, twice := seen[bytes]; twice {
				t.Fatalf("%v and %v are both encoded as %q", k, other, bytes)
			}
			seen[bytes] = k
		}
	}
}

// isCutShort reports whether what follows a key may change how its encoding is decoded.
func isCutShort(k api.Key) bool {
	return k == api.Key{Name: "Escape"} || k.Alt && (k.Rune == '[' || k.Rune == 'O')
}

// decodeAll decodes an input key by key.
func decodeAll(s string, m api.Modes) ([]api.Key, api.Errno) {
	var keys []api.Key
	for s != "" {
		k, n, e := Decode(s, m)
		if e != api.OK || n <= 0 || n > len(s) {
			return keys, e
		}
		keys, s = append(keys, k), s[n:]
	}
	return keys, api.OK
}

// compareSequence decodes the concatenated encodings of keys.
func compareSequence(t *testing.T, m api.Modes, keys ...api.Key) {
	t.Helper()
	var input strings.Builder
	for _, k := range keys {
		bytes, _ := Encode(k, m)
		input.WriteString(bytes)
	}
	got, e := decodeAll(input.String(), m)
	if e != api.OK || len(got) != len(keys) {
		t.Fatalf("%q is decoded as %v, %d, not %v", input.String(), got, e, keys)
	}
	for i, k := range keys {
		if got[i] != k {
			t.Fatalf("%q is decoded as %v, not %v", input.String(), got, keys)
		}
	}
}

// P14.3: any two keys, one after the other.
func TestPairs(t *testing.T) {
	for _, x := range []model{newModel(plain), newModel(both)} {
		keys := x.sampleKeys()
		for _, first := range keys {
			for _, second := range keys {
				if !isCutShort(first) {
					compareSequence(t, x.modes, first, second)
				}
			}
		}
	}
}

// P14.3: long inputs of random keys.
func TestLongSequences(t *testing.T) {
	random := rand.New(rand.NewSource(3))
	for _, x := range models() {
		keys := x.sampleKeys()
		for range 300 {
			var chosen []api.Key
			for range random.Intn(200) {
				if k := keys[random.Intn(len(keys))]; !isCutShort(k) {
					chosen = append(chosen, k)
				}
			}
			compareSequence(t, x.modes, chosen...)
		}
	}
}

// P14.4: Application only affects six keys without modifiers, NewLine only Enter.
func TestAffectedKeys(t *testing.T) {
	for _, k := range newModel(api.Modes{}).sampleKeys() {
		moves := k == api.Key{Name: k.Name} && strings.Contains(" Up Down Right Left Home End ", " "+k.Name+" ") && k.Name != ""
		for _, c := range []struct {
			with, without api.Modes
			affected      bool
		}{
			{application, plain, moves},
			{both, newLine, moves},
			{newLine, plain, k.Name == "Enter"},
			{both, application, k.Name == "Enter"},
		} {
			with, _ := Encode(k, c.with)
			without, _ := Encode(k, c.without)
			if (with != without) != c.affected {
				t.Errorf("%v is encoded as %q in %v, and as %q in %v", k, with, c.with, without, c.without)
			}
		}
	}
}

// P14.4: no other mode affects any key.
func TestOtherModes(t *testing.T) {
	random := rand.New(rand.NewSource(4))
	for _, x := range models() {
		for _, k := range x.sampleKeys() {
			want, _ := x.encode(k)
			for range 20 {
				m := otherModes(x.modes, random)
				if got, e := Encode(k, m); got != want || e != api.OK {
					t.Fatalf("Encode(%v, %v) = %q, %d, not %q", k, m, got, e, want)
				}
				for cut := range len(want) + 1 {
					key, size, wantError := x.decode(want[:cut])
					if got, n, e := Decode(want[:cut], m); got != key || n != size || e != wantError {
						t.Fatalf("Decode(%q, %v) = %v, %d, %d, not %v, %d, %d", want[:cut], m, got, n, e, key, size, wantError)
					}
				}
			}
		}
	}
}
