package utf8stream

import (
	"math"
	"math/rand"
	"slices"
	"strings"
	"testing"
	"unicode/utf8"
)

// bounds are the least and the greatest byte at a position of a form.
type bounds struct{ low, high byte }

// forms are the well-formed sequences, as the chapter lists them.
var forms = [][]bounds{
	{{0x00, 0x7F}},
	{{0xC2, 0xDF}, {0x80, 0xBF}},
	{{0xE0, 0xE0}, {0xA0, 0xBF}, {0x80, 0xBF}},
	{{0xE1, 0xEC}, {0x80, 0xBF}, {0x80, 0xBF}},
	{{0xEE, 0xEF}, {0x80, 0xBF}, {0x80, 0xBF}},
	{{0xED, 0xED}, {0x80, 0x9F}, {0x80, 0xBF}},
	{{0xF0, 0xF0}, {0x90, 0xBF}, {0x80, 0xBF}, {0x80, 0xBF}},
	{{0xF1, 0xF3}, {0x80, 0xBF}, {0x80, 0xBF}, {0x80, 0xBF}},
	{{0xF4, 0xF4}, {0x80, 0x8F}, {0x80, 0xBF}, {0x80, 0xBF}},
}

// edges are the bytes at both sides of every bound of the forms, and a letter.
var edges = []byte{
	0x00, 'a', 0x7F, 0x80, 0x8F, 0x90, 0x9F, 0xA0, 0xBF, 0xC0, 0xC1, 0xC2, 0xDF, 0xE0, 0xE1,
	0xEC, 0xED, 0xEE, 0xEF, 0xF0, 0xF1, 0xF3, 0xF4, 0xF5, 0xFF,
}

// fits reports whether s is the beginning of a sequence of a form.
func fits(s string, form []bounds) bool {
	if len(s) > len(form) {
		return false
	}
	for i := range len(s) {
		if s[i] < form[i].low || s[i] > form[i].high {
			return false
		}
	}
	return true
}

// begins reports whether s is the beginning of a well-formed sequence, and whether it is a complete one.
func begins(s string) (beginning, complete bool) {
	for _, form := range forms {
		if fits(s, form) {
			return true, len(s) == len(form)
		}
	}
	return false, false
}

// number returns the number that a sequence of one to four bytes encodes.
func number(s string) rune {
	head := []byte{0x7F, 0x1F, 0x0F, 0x07}[len(s)-1]
	r := rune(s[0] & head)
	for i := 1; i < len(s); i++ {
		r = r<<6 | rune(s[i]&0x3F)
	}
	return r
}

// decodeByDefinition decodes a string step by step as the chapter's definition says.
func decodeByDefinition(s string) ([]rune, string) {
	var l []rune
	kept := ""
	for i := 0; i < len(s); {
		beginning, complete := begins(kept + s[i:i+1])
		switch {
		case complete:
			l = append(l, number(kept+s[i:i+1]))
			kept = ""
			i++
		case beginning:
			kept += s[i : i+1]
			i++
		case kept != "":
			l = append(l, 0xFFFD)
			kept = ""
		default:
			l = append(l, 0xFFFD)
			i++
		}
	}
	return l, kept
}

// eachEdgeString calls f for all strings of at most n bytes from edges.
func eachEdgeString(n int, f func(string)) {
	var grow func(string)
	grow = func(s string) {
		f(s)
		if len(s) < n {
			for _, b := range edges {
				grow(s + string([]byte{b}))
			}
		}
	}
	grow("")
}

// randomString returns bytes of which many are parts of sequences.
func randomString(r *rand.Rand, n int) string {
	var b strings.Builder
	for b.Len() < n {
		switch r.Intn(4) {
		case 0:
			b.WriteByte(byte(r.Intn(256)))
		case 1:
			b.WriteByte(edges[r.Intn(len(edges))])
		default:
			s := string(rune(r.Intn(0x110000) >> r.Intn(21)))
			b.WriteString(s[:1+r.Intn(len(s))])
		}
	}
	return b.String()
}

func checkDecode(t *testing.T, pending, chunk string, want []rune, rest string) {
	t.Helper()
	if l, p := Decode(pending, chunk); !slices.Equal(l, want) || p != rest {
		t.Fatalf("Decode(%q, %q) = %x, %q; want %x, %q", pending, chunk, l, p, want, rest)
	}
}

func checkFinish(t *testing.T, pending string, want []rune) {
	t.Helper()
	if l := Finish(pending); !slices.Equal(l, want) {
		t.Fatalf("Finish(%q) = %x; want %x", pending, l, want)
	}
}

// finished returns the characters of a whole string by the definition.
func finished(s string) []rune {
	l, rest := decodeByDefinition(s)
	if rest != "" {
		l = append(l, 0xFFFD)
	}
	return l
}

// P1.1: ordinary inputs and the chapter's example.
func TestDecodeOrdinary(t *testing.T) {
	checkDecode(t, "", "", nil, "")
	checkDecode(t, "", "plain text\r\n", []rune("plain text\r\n"), "")
	checkDecode(t, "", "aé€😀", []rune{'a', 0xE9, 0x20AC, 0x1F600}, "")
	checkDecode(t, "", "\xE2\x82\x61\xE2", []rune{0xFFFD, 'a'}, "\xE2")
	checkDecode(t, "\xE2", "\x82\xAC", []rune{0x20AC}, "")
	checkDecode(t, "\xE2", "", nil, "\xE2")
	checkDecode(t, "", "\xEF\xBF\xBD", []rune{0xFFFD}, "")
	checkDecode(t, "", "\uFEFFa", []rune{0xFEFF, 'a'}, "")
}

// P1.1: an incomplete sequence yields one U+FFFD, and other bytes yield one each.
func TestDecodeReplacement(t *testing.T) {
	const bad = 0xFFFD
	for _, c := range []struct {
		s    string
		want []rune
		rest string
	}{
		{"\x80", []rune{bad}, ""},
		{"\xBF\xBF", []rune{bad, bad}, ""},
		{"\xC0\x80", []rune{bad, bad}, ""},
		{"\xC1\xBF", []rune{bad, bad}, ""},
		{"\xE0\x9F\xBF", []rune{bad, bad, bad}, ""},
		{"\xED\xA0\x80", []rune{bad, bad, bad}, ""},
		{"\xF0\x8F\xBF\xBF", []rune{bad, bad, bad, bad}, ""},
		{"\xF4\x90\x80\x80", []rune{bad, bad, bad, bad}, ""},
		{"\xF5\x80\x80\x80", []rune{bad, bad, bad, bad}, ""},
		{"\xF8\xFE\xFF", []rune{bad, bad, bad}, ""},
		{"\xF0\x9F\x98a", []rune{bad, 'a'}, ""},
		{"\xF0\x9F\xF0\x9F\x98\x80", []rune{bad, 0x1F600}, ""},
		{"\xC3\xC3\xA9", []rune{bad, 0xE9}, ""},
		{"\xE2\x82\xFF\xAC", []rune{bad, bad, bad}, ""},
		{"\xE2\x82\xAC\xAC", []rune{0x20AC, bad}, ""},
		{"\xE1\x80\xE2\xF0\x90\x91", []rune{bad, bad}, "\xF0\x90\x91"},
	} {
		checkDecode(t, "", c.s, c.want, c.rest)
	}
}

// P1.1: the first and the last sequence of each form are one character, and all their beginnings are pending.
func TestDecodeFormsInside(t *testing.T) {
	for _, form := range forms {
		first, last := []byte{}, []byte{}
		for _, b := range form {
			first = append(first, b.low)
			last = append(last, b.high)
		}
		for _, s := range []string{string(first), string(last)} {
			checkDecode(t, "", s, []rune{number(s)}, "")
			for n := range len(s) {
				checkDecode(t, "", s[:n], nil, s[:n])
			}
		}
	}
}

// P1.1: a sequence with a byte just outside of its form is not that character.
func TestDecodeFormsOutside(t *testing.T) {
	for _, form := range forms {
		least := []byte{}
		for _, b := range form {
			least = append(least, b.low)
		}
		for i, b := range form {
			for _, wrong := range []byte{b.low - 1, b.high + 1} {
				s := slices.Clone(least)
				s[i] = wrong
				want, rest := decodeByDefinition(string(s))
				checkDecode(t, "", string(s), want, rest)
				if i > 0 && (len(want) == 0 || want[0] != 0xFFFD) {
					t.Errorf("%q: the definition yields %x", s, want)
				}
			}
		}
	}
}

// P1.1: all strings of at most two bytes, and all strings of at most four bytes from both sides of the bounds.
func TestDecodeShortStrings(t *testing.T) {
	for a := range 256 {
		for b := range 256 {
			s := string([]byte{byte(a), byte(b)})
			want, rest := decodeByDefinition(s)
			checkDecode(t, "", s, want, rest)
		}
	}
	eachEdgeString(4, func(s string) {
		want, rest := decodeByDefinition(s)
		checkDecode(t, "", s, want, rest)
	})
}

// P1.1: pending bytes that Decode does not return are decoded as well.
func TestDecodeAnyPending(t *testing.T) {
	const bad = 0xFFFD
	for _, c := range []struct {
		pending, chunk string
		want           []rune
		rest           string
	}{
		{"ab", "c", []rune("abc"), ""},
		{"\xFF", "", []rune{bad}, ""},
		{"\x80", "\x80", []rune{bad, bad}, ""},
		{"a\xE2\x82", "\xAC", []rune{'a', 0x20AC}, ""},
		{"\xE2\x82\xAC", "", []rune{0x20AC}, ""},
		{"\xED\xA0", "\x80", []rune{bad, bad, bad}, ""},
		{"\xF0\x9F\x98\x80\xF0", "\x9F\x98", []rune{0x1F600}, "\xF0\x9F\x98"},
		{"\xE2\x82\xE2", "\x82", []rune{bad}, "\xE2\x82"},
	} {
		checkDecode(t, c.pending, c.chunk, c.want, c.rest)
	}
	eachEdgeString(3, func(s string) {
		for n := range len(s) + 1 {
			want, rest := decodeByDefinition(s)
			checkDecode(t, s[:n], s[n:], want, rest)
		}
	})
}

// P1.1: Finish decodes any pending bytes, and adds one U+FFFD for what is incomplete.
func TestFinish(t *testing.T) {
	const bad = 0xFFFD
	checkFinish(t, "", nil)
	checkFinish(t, "a", []rune{'a'})
	checkFinish(t, "\xE2\x82", []rune{bad})
	checkFinish(t, "\xF0\x9F\x98", []rune{bad})
	checkFinish(t, "\xE2\x82\xAC", []rune{0x20AC})
	checkFinish(t, "\xFF", []rune{bad})
	checkFinish(t, "\x80\xC3", []rune{bad, bad})
	checkFinish(t, "a\xE2b\xF0\x9F", []rune{'a', bad, 'b', bad})
	eachEdgeString(4, func(s string) { checkFinish(t, s, finished(s)) })
}

// P1.1: the first and the last character of each length, and numbers that are not characters.
func TestEncode(t *testing.T) {
	const bad = "\xEF\xBF\xBD"
	for _, c := range []struct {
		l    []rune
		want string
	}{
		{nil, ""},
		{[]rune{}, ""},
		{[]rune{0, 'a', 0x7F}, "\x00a\x7F"},
		{[]rune{0x80, 0x7FF}, "\xC2\x80\xDF\xBF"},
		{[]rune{0x800, 0xD7FF}, "\xE0\xA0\x80\xED\x9F\xBF"},
		{[]rune{0xE000, 0xFFFF}, "\xEE\x80\x80\xEF\xBF\xBF"},
		{[]rune{0x10000, 0x10FFFF}, "\xF0\x90\x80\x80\xF4\x8F\xBF\xBF"},
		{[]rune{0xFFFD}, bad},
		{[]rune{0xD800, 0xDBFF, 0xDC00, 0xDFFF}, bad + bad + bad + bad},
		{[]rune{0xD83D, 0xDE00}, bad + bad},
		{[]rune{0x110000, -1}, bad + bad},
		{[]rune{math.MinInt32, math.MaxInt32}, bad + bad},
		{[]rune{'a', -5, 0x20AC}, "a" + bad + "\xE2\x82\xAC"},
	} {
		before := slices.Clone(c.l)
		if s := Encode(c.l); s != c.want {
			t.Errorf("Encode(%x) = %q; want %q", c.l, s, c.want)
		}
		if !slices.Equal(c.l, before) {
			t.Errorf("Encode changed %x to %x", before, c.l)
		}
	}
}

// validByDefinition reports whether s is a concatenation of sequences of the forms.
func validByDefinition(s string) bool {
	for s != "" {
		n := 0
		for n = 1; n <= len(s); n++ {
			if _, complete := begins(s[:n]); complete {
				break
			}
		}
		if n > len(s) {
			return false
		}
		s = s[n:]
	}
	return true
}

// P1.1: Valid accepts exactly the concatenations of well-formed sequences.
func TestValid(t *testing.T) {
	for s, want := range map[string]bool{
		"": true, "abc\x00\x7F": true, "aé€😀": true, "\xEF\xBF\xBD": true,
		"\x80": false, "a\xFF": false, "\xE2\x82": false, "\xE2\x82\xAC\xF0": false,
		"\xC0\x80": false, "\xE0\x9F\xBF": false, "\xED\xA0\x80": false, "\xED\x9F\xBF": true,
		"\xF0\x8F\xBF\xBF": false, "\xF4\x8F\xBF\xBF": true, "\xF4\x90\x80\x80": false,
	} {
		if Valid(s) != want {
			t.Errorf("Valid(%q) = %v", s, !want)
		}
	}
	eachEdgeString(4, func(s string) {
		if want := validByDefinition(s); Valid(s) != want {
			t.Fatalf("Valid(%q) = %v", s, !want)
		}
	})
}

// decodeChunks decodes the chunks of s that end at the indices ends, and the rest of it.
func decodeChunks(s string, ends ...int) ([]rune, string) {
	var all []rune
	pending := ""
	from := 0
	for _, to := range append(slices.Clone(ends), len(s)) {
		var l []rune
		l, pending = Decode(pending, s[from:to])
		all = append(all, l...)
		from = to
	}
	return all, pending
}

func checkChunks(t *testing.T, s string, ends ...int) {
	t.Helper()
	want, rest := decodeByDefinition(s)
	if l, p := decodeChunks(s, ends...); !slices.Equal(l, want) || p != rest {
		t.Fatalf("%q in chunks that end at %v: %x, %q; want %x, %q", s, ends, l, p, want, rest)
	}
}

// P1.2: chunks of all lengths, also empty ones.
func TestChunksOfShortStrings(t *testing.T) {
	eachEdgeString(3, func(s string) {
		for i := range len(s) + 1 {
			for j := i; j <= len(s); j++ {
				checkChunks(t, s, i, j)
			}
		}
	})
}

// P1.2: long streams, byte by byte and in random chunks.
func TestChunksOfLongStrings(t *testing.T) {
	r := rand.New(rand.NewSource(1))
	for range 300 {
		s := randomString(r, r.Intn(200))
		single := []int{}
		for i := range len(s) {
			single = append(single, i)
		}
		checkChunks(t, s)
		checkChunks(t, s, single...)
		ends := []int{}
		for range r.Intn(10) {
			ends = append(ends, r.Intn(len(s)+1))
		}
		slices.Sort(ends)
		checkChunks(t, s, ends...)
	}
}

func checkPending(t *testing.T, s string) {
	t.Helper()
	if _, p := Decode("", s); len(p) > 3 || !strings.HasSuffix(s, p) {
		t.Fatalf("%q: %q is pending", s, p)
	}
}

// P1.2: at most three bytes are pending, the last ones of the stream.
func TestPendingBytes(t *testing.T) {
	eachEdgeString(4, func(s string) { checkPending(t, s) })
	r := rand.New(rand.NewSource(2))
	for range 1000 {
		checkPending(t, randomString(r, r.Intn(100)))
	}
	for _, s := range []string{"\xF0\x9F\x98", "a\xF4\x8F\xBF", "€\xE2\x82", "\xFF\xC3"} {
		if _, p := Decode("", s); p == "" {
			t.Errorf("%q: nothing is pending", s)
		}
	}
}

// P1.2: after any bytes an ASCII byte is itself, and nothing is pending then.
func TestASCII(t *testing.T) {
	eachEdgeString(3, func(s string) {
		for _, b := range []byte{0, '\n', 0x1B, 'a', 0x7F} {
			checkDecode(t, s, string([]byte{b}), append(Finish(s), rune(b)), "")
		}
	})
	for b := range 128 {
		checkDecode(t, "\xF0\x9F\x98", string([]byte{byte(b)}), []rune{0xFFFD, rune(b)}, "")
	}
}

// P1.3: every character is decoded from its encoding, alone and among others.
func TestRoundTripOfCharacters(t *testing.T) {
	all := []rune{}
	for r := rune(0); r <= 0x10FFFF; r++ {
		if r >= 0xD800 && r <= 0xDFFF {
			continue
		}
		s := Encode([]rune{r})
		if !Valid(s) || !utf8.ValidString(s) || number(s) != r {
			t.Fatalf("%x is encoded as %q", r, s)
		}
		checkDecode(t, "", s, []rune{r}, "")
		all = append(all, r)
	}
	s := Encode(all)
	if l, p := Decode("", s); !slices.Equal(l, all) || p != "" {
		t.Error("the characters in one string are decoded as others")
	}
	if !Valid(s) {
		t.Error("the encoding of all characters is not valid")
	}
}

func checkValid(t *testing.T, s string) {
	t.Helper()
	if same := Encode(Finish(s)) == s; Valid(s) != same {
		t.Fatalf("Valid(%q) = %v; it is the encoding of its characters: %v", s, Valid(s), same)
	}
}

// P1.3: a string is valid exactly if it is the encoding of its characters.
func TestValidIsRoundTrip(t *testing.T) {
	for _, s := range []string{"", "a", "aé€😀", "\xEF\xBF\xBD", "\xEF\xBF", "\xED\xA0\x80", "a\x80"} {
		checkValid(t, s)
	}
	eachEdgeString(4, func(s string) { checkValid(t, s) })
	r := rand.New(rand.NewSource(3))
	for range 2000 {
		checkValid(t, randomString(r, r.Intn(20)))
	}
}
