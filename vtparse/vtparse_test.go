package vtparse

import (
	"fmt"
	"math"
	"math/rand"
	"slices"
	"strings"
	"testing"

	"narrator/api"
)

// sameEvents reports whether two lists of events are equal in all fields.
func sameEvents(a, b []api.Event) bool {
	return slices.EqualFunc(a, b, func(x, y api.Event) bool {
		return x.Kind == y.Kind && x.Rune == y.Rune && x.Code == y.Code && x.Private == y.Private &&
			x.Inter == y.Inter && slices.Equal(x.Params, y.Params) && x.Text == y.Text
	})
}

// printed returns the events of printed characters.
func printed(l ...rune) []api.Event {
	var events []api.Event
	for _, r := range l {
		events = append(events, api.Event{Kind: api.PrintEvent, Rune: r})
	}
	return events
}

// controls returns the events of control characters.
func controls(codes ...byte) []api.Event {
	var events []api.Event
	for _, code := range codes {
		events = append(events, api.Event{Kind: api.ControlEvent, Code: code})
	}
	return events
}

// escaped returns the event of an escape sequence.
func escaped(inter string, code byte) []api.Event {
	return []api.Event{{Kind: api.EscapeEvent, Inter: inter, Code: code}}
}

// controlled returns the event of a control sequence without a private marker and intermediate bytes.
func controlled(code byte, params ...int) []api.Event {
	return []api.Event{{Kind: api.SequenceEvent, Params: params, Code: code}}
}

// commanded returns the event of a command.
func commanded(text string) []api.Event {
	return []api.Event{{Kind: api.CommandEvent, Text: text}}
}

// oneByte returns the string that is one byte.
func oneByte(b int) string { return string([]byte{byte(b)}) }

// eachString calls f for all strings of a length whose bytes are from a string.
func eachString(of string, length int, f func(string)) {
	if length == 0 {
		f("")
		return
	}
	eachString(of, length-1, func(s string) {
		for i := range len(of) {
			f(s + of[i:i+1])
		}
	})
}

// sampleBytes are bytes of every kind, with those at the bounds of the kinds.
const sampleBytes = "\x00\x07\x17\x18\x19\x1A\x1B\x1C\x1F\x20\x2F\x30;\x3F\x40[\\]m\x7E\x7F\x80\x9F\xA0\xC2\xE2\xFF"

// checkFeed compares Feed with the chapter, and reports what is not proper.
func checkFeed(t *testing.T, p api.Parser, chunk string) {
	t.Helper()
	want, events := chapterFeed(p, chunk)
	got, found := Feed(p, chunk)
	if got != want || !sameEvents(found, events) {
		t.Fatalf("Feed(%#v, %q) = %#v, %v; want %#v, %v", p, chunk, got, found, want, events)
	}
	if !chapterProper(got) {
		t.Fatalf("Feed(%#v, %q) returns the parser %#v", p, chunk, got)
	}
	for _, e := range found {
		if Check(e) != api.OK || chapterCheck(e) != api.OK {
			t.Fatalf("Feed(%#v, %q) returns the event %v", p, chunk, e)
		}
	}
}

// feedChunks feeds the chunks of s that end at the indices ends, and the rest of it.
func feedChunks(p api.Parser, s string, ends ...int) (api.Parser, []api.Event) {
	var all []api.Event
	from := 0
	for _, to := range append(slices.Clone(ends), len(s)) {
		var l []api.Event
		p, l = Feed(p, s[from:to])
		all = append(all, l...)
		from = to
	}
	return p, all
}

// checkChunks compares a stream in chunks with the stream at once.
func checkChunks(t *testing.T, p api.Parser, s string, ends ...int) {
	t.Helper()
	want, events := Feed(p, s)
	if got, found := feedChunks(p, s, ends...); got != want || !sameEvents(found, events) {
		t.Fatalf("%#v, %q in chunks that end at %v: %#v, %v; want %#v, %v", p, s, ends, got, found, want, events)
	}
}

// properParsers are parsers in every state, with buffers around every limit.
func properParsers() []api.Parser {
	l := []api.Parser{{}}
	for _, pending := range []string{"\xC2", "\xC3", "\xDF", "\xE0", "\xE2", "\xE2\x82", "\xED", "\xED\x9F", "\xEF\xBF", "\xF0", "\xF0\x9F", "\xF0\x9F\x98", "\xF4\x8F\xBF"} {
		l = append(l, api.Parser{Pending: pending})
	}
	for _, buffer := range []string{"", " ", "(", "/", "()", "  ", "(((", " /#"} {
		l = append(l, api.Parser{State: 1, Buffer: buffer})
	}
	for _, buffer := range []string{
		"", "1", "25", "9999", "10000", "1;2", ";", "?", "?25", "?25;1", ">", "1<", "1:2", " ", "$", "1$", "1 $", "1 $!", "1 2", "??",
		strings.Repeat(";", 15), strings.Repeat(";", 16), strings.Repeat("0", 255), strings.Repeat("0", 256), strings.Repeat("0", 257),
		strings.Repeat("0", 255) + "7", strings.Repeat("0", 256) + "7", strings.Repeat("?", 257),
	} {
		l = append(l, api.Parser{State: 2, Buffer: buffer})
	}
	for _, buffer := range []string{"", "0", "0;title", "2;\xC3\xA9", "\xC3", "\x7F\x80\x9F\xFF", strings.Repeat("x", 255), strings.Repeat("x", 256), strings.Repeat("\xFF", 256)} {
		l = append(l, api.Parser{State: 3, Buffer: buffer}, api.Parser{State: 4, Buffer: buffer})
	}
	return l
}

// A wrongParser is a parser that is not proper, with the reason.
type wrongParser struct {
	reason string
	p      api.Parser
}

// wrongParsers are parsers that are not proper, for each reason.
func wrongParsers() []wrongParser {
	return []wrongParser{
		{"the state is negative", api.Parser{State: -1}},
		{"the state is the least number", api.Parser{State: math.MinInt}},
		{"there is no state 5", api.Parser{State: 5}},
		{"there is no state 5, with a buffer", api.Parser{State: 5, Buffer: "x"}},
		{"there is no state 256", api.Parser{State: 256}},
		{"the state is the greatest number", api.Parser{State: math.MaxInt}},
		{"Ground has a buffer", api.Parser{Buffer: "1"}},
		{"Ground has a buffer and pending bytes", api.Parser{Buffer: "1", Pending: "\xE2"}},
		{"a character is pending", api.Parser{Pending: "a"}},
		{"a control character is pending", api.Parser{Pending: "\x1B"}},
		{"a long character is pending", api.Parser{Pending: "\xE2\x82\xAC"}},
		{"a character and an incomplete one are pending", api.Parser{Pending: "a\xE2"}},
		{"two incomplete characters are pending", api.Parser{Pending: "\xE2\xE2"}},
		{"a byte is pending that begins nothing", api.Parser{Pending: "\x80"}},
		{"the byte FF is pending", api.Parser{Pending: "\xFF"}},
		{"C0 is pending", api.Parser{Pending: "\xC0"}},
		{"the beginning of a surrogate is pending", api.Parser{Pending: "\xED\xA0"}},
		{"the beginning of an overlong character is pending", api.Parser{Pending: "\xE0\x9F"}},
		{"the beginning of a number beyond the characters is pending", api.Parser{Pending: "\xF4\x90"}},
		{"bytes are pending in Escape", api.Parser{State: 1, Pending: "\xE2"}},
		{"bytes are pending in Sequence", api.Parser{State: 2, Pending: "\xE2", Buffer: "1"}},
		{"bytes are pending in Command", api.Parser{State: 3, Pending: "\xE2", Buffer: "x"}},
		{"bytes are pending in CommandEscape", api.Parser{State: 4, Pending: "\xE2"}},
		{"Escape has four bytes", api.Parser{State: 1, Buffer: "(((("}},
		{"Escape has a byte less than 20", api.Parser{State: 1, Buffer: "\x1F"}},
		{"Escape has a byte greater than 2F", api.Parser{State: 1, Buffer: "(0"}},
		{"Escape has a byte of 80 or more", api.Parser{State: 1, Buffer: "\xA0"}},
		{"Sequence has 258 bytes", api.Parser{State: 2, Buffer: strings.Repeat("0", 258)}},
		{"Sequence has a byte less than 20", api.Parser{State: 2, Buffer: "1\x1F"}},
		{"Sequence has a byte greater than 3F", api.Parser{State: 2, Buffer: "@1"}},
		{"Sequence has a byte of 80 or more", api.Parser{State: 2, Buffer: "1\xB1"}},
		{"Command has 257 bytes", api.Parser{State: 3, Buffer: strings.Repeat("x", 257)}},
		{"Command has a byte less than 20", api.Parser{State: 3, Buffer: "x\x1F"}},
		{"CommandEscape has 257 bytes", api.Parser{State: 4, Buffer: strings.Repeat("x", 257)}},
		{"CommandEscape has a byte less than 20", api.Parser{State: 4, Buffer: "\x00x"}},
		{"the buffer is very long", api.Parser{State: 3, Buffer: strings.Repeat("x", 1<<20)}},
	}
}

// The table of the chapter tells of every byte in every state, and of none twice.
func TestChapterRules(t *testing.T) {
	var count [5][256]int
	for _, r := range chapterRules() {
		for b := int(r.low); b <= int(r.high); b++ {
			count[r.state][b]++
		}
	}
	for state := range count {
		for b, n := range count[state] {
			if n != 1 {
				t.Errorf("%d rules for the byte %X in the state %d", n, b, state)
			}
		}
	}
}

// P6.1: the chapter's example.
func TestExample(t *testing.T) {
	p, l := Feed(api.Parser{}, "\x1B\x5B\x31\x07\x6D")
	if want := slices.Concat(controls(7), controlled('m', 1)); p != (api.Parser{}) || !sameEvents(l, want) {
		t.Errorf("Feed = %#v, %v; want %v", p, l, want)
	}
}

// A feedCase is a stream with its events and the parser after it, written out.
type feedCase struct {
	name, s string
	events  []api.Event
	p       api.Parser
}

// runCases feeds the streams of cases to the zero parser, at once and in all pairs of chunks.
func runCases(t *testing.T, cases []feedCase) {
	t.Helper()
	for _, c := range cases {
		p, l := Feed(api.Parser{}, c.s)
		if p != c.p || !sameEvents(l, c.events) {
			t.Errorf("%s: Feed(%q) = %#v, %v; want %#v, %v", c.name, c.s, p, l, c.p, c.events)
		}
		checkFeed(t, api.Parser{}, c.s)
		for i := range len(c.s) + 1 {
			checkChunks(t, api.Parser{}, c.s, i)
		}
	}
}

// P6.1 and P6.2: what is read in Ground.
func TestGroundCases(t *testing.T) {
	const bad = 0xFFFD
	bare := api.Parser{}
	runCases(t, []feedCase{
		{"nothing", "", nil, bare},
		{"text", "a~ b", printed('a', '~', ' ', 'b'), bare},
		{"characters of two to four bytes", "é€😀", printed(0xE9, 0x20AC, 0x1F600), bare},
		{"the first character after the controls", "\u00A0", printed(0xA0), bare},
		{"the last character", "\U0010FFFF", printed(0x10FFFF), bare},
		{"U+FFFD itself", "\uFFFD", printed(bad), bare},
		{"a mark", "e\u0301", printed('e', 0x301), bare},
		{"control characters", "\x00\a\r\n\x17\x19\x1C\x1F", controls(0, 7, 13, 10, 0x17, 0x19, 0x1C, 0x1F), bare},
		{"cancel and substitute", "\x18\x1A", nil, bare},
		{"cancel and substitute in text", "a\x18b\x1Ac", printed('a', 'b', 'c'), bare},
		{"a delete", "a\x7Fb", printed('a', 'b'), bare},
		{"an ESC", "a\x1B", printed('a'), api.Parser{State: 1}},
		{"the characters from 80 to 9F", "\xC2\x80a\xC2\x85\xC2\x9B1m\xC2\x9F", printed('a', '1', 'm'), bare},
		{"the bytes from 80 to 9F", "\x80\x9B\x9F", printed(bad, bad, bad), bare},
		{"a byte that begins nothing", "\xFFa", printed(bad, 'a'), bare},
		{"an incomplete character", "\xE2\x82", nil, api.Parser{Pending: "\xE2\x82"}},
		{"an incomplete character after text", "a\xF0\x9F\x98", printed('a'), api.Parser{Pending: "\xF0\x9F\x98"}},
		{"pending bytes before a control character", "\xE2\x82\n", slices.Concat(printed(bad), controls(10)), bare},
		{"pending bytes before the first control character", "\xE2\x00", slices.Concat(printed(bad), controls(0)), bare},
		{"pending bytes before a delete", "\xE2\x82\x7F", printed(bad), bare},
		{"pending bytes before a delete and the rest", "\xE2\x82\x7F\xAC", printed(bad, bad), bare},
		{"pending bytes before an ESC", "\xF0\x9F\x98\x1B", printed(bad), api.Parser{State: 1}},
		{"pending bytes before a sequence", "\xC3\x1B[m", slices.Concat(printed(bad), controlled('m')), bare},
		{"pending bytes before 18", "\xE2\x82\x18", printed(bad), bare},
		{"pending bytes before 18 and the rest", "\xE2\x82\x18\xAC", printed(bad, bad), bare},
		{"pending bytes before 1A", "\xC2\x1A", printed(bad), bare},
		{"pending bytes before 1A and the rest", "\xC2\x1A\xA9", printed(bad, bad), bare},
		{"pending bytes before a letter", "\xE2\x82a", printed(bad, 'a'), bare},
		{"pending bytes before another character", "\xE2\x82é", printed(bad, 0xE9), bare},
		{"pending bytes before a character from 80 to 9F", "\xE2\xC2\x85", printed(bad), bare},
		{"pending bytes before a byte that begins nothing", "\xE2\xFF", printed(bad, bad), bare},
	})
}

// P6.1 and P6.2: escape sequences.
func TestEscapeCases(t *testing.T) {
	bare, begun := api.Parser{}, api.Parser{State: 1}
	runCases(t, []feedCase{
		{"the first final byte", "\x1B0", escaped("", '0'), bare},
		{"the last final byte", "\x1B~", escaped("", '~'), bare},
		{"a backslash", "\x1B\\", escaped("", '\\'), bare},
		{"text after it", "\x1B7a", slices.Concat(escaped("", '7'), printed('a')), bare},
		{"an intermediate byte", "\x1B(B", escaped("(", 'B'), bare},
		{"the first and the last intermediate byte", "\x1B /Z", escaped(" /", 'Z'), bare},
		{"three intermediate bytes", "\x1B(((B", nil, bare},
		{"three intermediate bytes and text", "\x1B(((BC", printed('C'), bare},
		{"more intermediate bytes", "\x1B((((B", nil, bare},
		{"many intermediate bytes", "\x1B" + strings.Repeat("#", 1000) + "Ba", printed('a'), bare},
		{"three intermediate bytes at the end", "\x1B#$%", nil, api.Parser{State: 1, Buffer: "#$%"}},
		{"four intermediate bytes at the end", "\x1B#$%&", nil, api.Parser{State: 1, Buffer: "#$%"}},
		{"5B behind an intermediate byte", "\x1B([", escaped("(", '['), bare},
		{"5D behind two intermediate bytes", "\x1B()]", escaped("()", ']'), bare},
		{"5B behind three intermediate bytes", "\x1B((([1", printed('1'), bare},
		{"5D behind four intermediate bytes", "\x1B((((]1", printed('1'), bare},
		{"ESC twice", "\x1B\x1B7", escaped("", '7'), bare},
		{"ESC behind an intermediate byte", "\x1B(\x1B7", escaped("", '7'), bare},
		{"ESC behind an intermediate byte at the end", "\x1B(\x1B", nil, begun},
		{"18", "\x1B\x18a", printed('a'), bare},
		{"1A behind an intermediate byte", "\x1B(\x1AB", printed('B'), bare},
		{"control characters", "\x1B\r(\n\x19B", slices.Concat(controls(13, 10, 0x19), escaped("(", 'B')), bare},
		{"a control character at the end", "\x1B(\a", controls(7), api.Parser{State: 1, Buffer: "("}},
		{"deletes", "\x1B\x7F(\x7FB", escaped("(", 'B'), bare},
		{"a delete at the end", "\x1B\x7F", nil, begun},
		{"a byte of 80 or more", "\x1Bé7", printed(0xE9, '7'), bare},
		{"the beginning of a character", "\x1B(\xE2", nil, api.Parser{Pending: "\xE2"}},
		{"a byte that begins nothing", "\x1B\x807", printed(0xFFFD, '7'), bare},
		{"a character from 80 to 9F", "\x1B\xC2\x9B7", printed('7'), bare},
	})
}

// P6.1 and P6.2: control sequences.
func TestSequenceCases(t *testing.T) {
	bare := api.Parser{}
	zeros := strings.Repeat("0", 255)
	runCases(t, []feedCase{
		{"no parameters", "\x1B[m", controlled('m'), bare},
		{"parameters", "\x1B[1;;30H", controlled('H', 1, -1, 30), bare},
		{"the first final byte", "\x1B[1@", controlled('@', 1), bare},
		{"the last final byte", "\x1B[1~", controlled('~', 1), bare},
		{"an opening bracket as the final byte", "\x1B[[", controlled('['), bare},
		{"a closing bracket as the final byte", "\x1B[]", controlled(']'), bare},
		{"a private marker", "\x1B[?25h", []api.Event{{Kind: api.SequenceEvent, Private: '?', Params: []int{25}, Code: 'h'}}, bare},
		{"everything", "\x1B[>1;2 $p", []api.Event{{Kind: api.SequenceEvent, Private: '>', Params: []int{1, 2}, Inter: " $", Code: 'p'}}, bare},
		{"leading zeros", "\x1B[007A", controlled('A', 7), bare},
		{"text after it", "\x1B[2Jab", slices.Concat(controlled('J', 2), printed('a', 'b')), bare},
		{"256 bytes", "\x1B[" + zeros + "7m", controlled('m', 7), bare},
		{"257 bytes", "\x1B[" + zeros + "07m", nil, bare},
		{"258 bytes", "\x1B[" + zeros + "007m", nil, bare},
		{"many bytes and text", "\x1B[" + strings.Repeat("1;", 1000) + "mab", printed('a', 'b'), bare},
		{"256 bytes at the end", "\x1B[" + zeros + "7", nil, api.Parser{State: 2, Buffer: zeros + "7"}},
		{"257 bytes at the end", "\x1B[" + zeros + "78", nil, api.Parser{State: 2, Buffer: zeros + "78"}},
		{"258 bytes at the end", "\x1B[" + zeros + "789", nil, api.Parser{State: 2, Buffer: zeros + "78"}},
		{"no syntax", "\x1B[1<ma", printed('a'), bare},
		{"a colon", "\x1B[38:5ma", printed('a'), bare},
		{"a parameter that is too great", "\x1B[10000ma", printed('a'), bare},
		{"too many parameters", "\x1B[" + strings.Repeat(";", 16) + "m", nil, bare},
		{"too many intermediate bytes", "\x1B[1!!!p", nil, bare},
		{"as many parameters as possible", "\x1B[" + strings.Repeat(";", 15) + "m", controlled('m', slices.Repeat([]int{-1}, 16)...), bare},
		{"ESC", "\x1B[1\x1B[2J", controlled('J', 2), bare},
		{"ESC at the end", "\x1B[1\x1B", nil, api.Parser{State: 1}},
		{"18", "\x1B[1\x18m", printed('m'), bare},
		{"1A", "\x1B[1\x1Am", printed('m'), bare},
		{"control characters", "\x1B[\x001\n2\x1Fm", slices.Concat(controls(0, 10, 0x1F), controlled('m', 12)), bare},
		{"a control character at the end", "\x1B[1;\n", controls(10), api.Parser{State: 2, Buffer: "1;"}},
		{"deletes", "\x1B[\x7F1\x7Fm", controlled('m', 1), bare},
		{"a byte of 80 or more", "\x1B[1€m", printed(0x20AC, 'm'), bare},
		{"the beginning of a character", "\x1B[1\xF0\x9F", nil, api.Parser{Pending: "\xF0\x9F"}},
		{"a byte that begins nothing", "\x1B[1\x80m", printed(0xFFFD, 'm'), bare},
		{"a character from 80 to 9F", "\x1B[\xC2\x9Bm", printed('m'), bare},
	})
}

// P6.1 and P6.2: commands.
func TestCommandCases(t *testing.T) {
	bare := api.Parser{}
	many := strings.Repeat("x", 255)
	runCases(t, []feedCase{
		{"no text, ended by 07", "\x1B]\a", commanded(""), bare},
		{"no text, ended by a backslash", "\x1B]\x1B\\", commanded(""), bare},
		{"ended by 07", "\x1B]0;hi\ab", slices.Concat(commanded("0;hi"), printed('b')), bare},
		{"ended by a backslash", "\x1B]0;hi\x1B\\b", slices.Concat(commanded("0;hi"), printed('b')), bare},
		{"a backslash and brackets in the text", "\x1B]\\[]\a", commanded("\\[]"), bare},
		{"characters of several bytes", "\x1B]0;é€\a", commanded("0;é€"), bare},
		{"bytes that are no characters", "\x1B]\x7F\x80\x9F\xC3\xFF\a", commanded("\x7F\x80\x9F\xC3\xFF"), bare},
		{"control characters", "\x1B]a\x00\x06b\b\r\n\x17\x19c\x1C\x1F\a", commanded("abc"), bare},
		{"255 bytes, ended by 07", "\x1B]" + many + "\a", commanded(many), bare},
		{"255 bytes, ended by a backslash", "\x1B]" + many + "\x1B\\", commanded(many), bare},
		{"256 bytes, ended by 07", "\x1B]" + many + "y\a", commanded(many + "y"), bare},
		{"256 bytes, ended by a backslash", "\x1B]" + many + "y\x1B\\", commanded(many + "y"), bare},
		{"257 bytes, ended by 07", "\x1B]" + many + "yz\a", commanded(many + "y"), bare},
		{"257 bytes, ended by a backslash", "\x1B]" + many + "yz\x1B\\", commanded(many + "y"), bare},
		{"many bytes", "\x1B]" + many + "yz" + many + "\aa", slices.Concat(commanded(many+"y"), printed('a')), bare},
		{"256 bytes at the end", "\x1B]" + many + "y", nil, api.Parser{State: 3, Buffer: many + "y"}},
		{"257 bytes at the end", "\x1B]" + many + "yz", nil, api.Parser{State: 3, Buffer: many + "y"}},
		{"257 bytes and an ESC at the end", "\x1B]" + many + "yz\x1B", nil, api.Parser{State: 4, Buffer: many + "y"}},
		{"18", "\x1B]a\x18b\a", slices.Concat(printed('b'), controls(7)), bare},
		{"1A", "\x1B]a\x1Ab\a", slices.Concat(printed('b'), controls(7)), bare},
		{"ESC at the end", "\x1B]a\x1B", nil, api.Parser{State: 4, Buffer: "a"}},
		{"ESC and a final byte", "\x1B]a\x1B7b", slices.Concat(escaped("", '7'), printed('b')), bare},
		{"ESC and an intermediate byte", "\x1B]a\x1B(B", escaped("(", 'B'), bare},
		{"ESC and an intermediate byte at the end", "\x1B]a\x1B(", nil, api.Parser{State: 1, Buffer: "("}},
		{"ESC, an intermediate byte and a backslash", "\x1B]a\x1B(\\", escaped("(", '\\'), bare},
		{"ESC and a control sequence", "\x1B]a\x1B[1m", controlled('m', 1), bare},
		{"ESC and a command", "\x1B]a\x1B]b\a", commanded("b"), bare},
		{"ESC twice", "\x1B]a\x1B\x1B", nil, api.Parser{State: 1}},
		{"ESC twice and a backslash", "\x1B]a\x1B\x1B\\", escaped("", '\\'), bare},
		{"ESC and 07", "\x1B]a\x1B\ab", slices.Concat(controls(7), escaped("", 'b')), bare},
		{"ESC and 07 at the end", "\x1B]a\x1B\a", controls(7), api.Parser{State: 1}},
		{"ESC and a delete", "\x1B]a\x1B\x7F\\", escaped("", '\\'), bare},
		{"ESC and 18", "\x1B]a\x1B\x18b", printed('b'), bare},
		{"ESC and 1A", "\x1B]a\x1B\x1A\\", printed('\\'), bare},
		{"ESC and a character", "\x1B]a\x1Béb", printed(0xE9, 'b'), bare},
		{"ESC and the beginning of a character", "\x1B]a\x1B\xE2\x82", nil, api.Parser{Pending: "\xE2\x82"}},
	})
}

// P6.1 and P6.2: every byte in every state, and behind it every kind of byte.
func TestEveryByteInEveryState(t *testing.T) {
	for _, p := range properParsers() {
		if !chapterProper(p) {
			t.Fatalf("%#v is not proper", p)
		}
		checkFeed(t, p, "")
		for b := range 256 {
			checkFeed(t, p, oneByte(b))
			for i := range len(sampleBytes) {
				checkFeed(t, p, oneByte(b)+sampleBytes[i:i+1])
			}
		}
	}
}

// P6.1 and P6.2: all pending bytes before each byte that is no part of a character, and before each kind of byte.
func TestEveryPending(t *testing.T) {
	for pending := range allPending() {
		p := api.Parser{Pending: pending}
		checkFeed(t, p, "")
		for b := range 0x20 {
			checkFeed(t, p, oneByte(b)+"a")
		}
		for i := range len(sampleBytes) {
			checkFeed(t, p, sampleBytes[i:i+1])
		}
		checkFeed(t, p, "\x80\x80\x80")
	}
}

// P6.1: every character but the control characters is printed, and those from 80 to 9F yield nothing.
func TestEveryCharacter(t *testing.T) {
	for r := rune(0x20); r <= 0x10FFFF; r++ {
		if r == 0x7F || r >= 0xD800 && r <= 0xDFFF {
			continue
		}
		want := printed(r)
		if r >= 0x80 && r <= 0x9F {
			want = nil
		}
		if p, l := Feed(api.Parser{}, string(r)); p != (api.Parser{}) || !sameEvents(l, want) {
			t.Fatalf("%X: Feed = %#v, %v", r, p, l)
		}
	}
}

// P6.1 and P6.2: all short streams over every kind of byte, and all short ones behind each parser.
func TestShortStreams(t *testing.T) {
	for length := range 5 {
		eachString(sampleBytes, length, func(s string) { checkFeed(t, api.Parser{}, s) })
	}
	for length := range 6 {
		eachString("\a\x18\x1B(1[\\]m\xC2", length, func(s string) {
			checkFeed(t, api.Parser{}, "\x1B"+s)
			checkFeed(t, api.Parser{State: 4, Buffer: "x"}, s)
		})
	}
	for _, p := range properParsers() {
		eachString(sampleBytes, 3, func(s string) { checkFeed(t, p, s) })
	}
}

// P6.1 and P6.2: every number of intermediate bytes, and every number of bytes up to beyond the limits.
func TestLengths(t *testing.T) {
	for n := range 20 {
		for b := 0x20; b < 0x80; b++ {
			checkFeed(t, api.Parser{}, "\x1B"+strings.Repeat("(", n)+oneByte(b)+"a")
		}
	}
	for n := range 600 {
		// The limits are reached by as many units of one byte, and by half as many of two.
		if n%64 > 2 && n%64 < 62 {
			continue
		}
		for _, s := range []string{"0", "?", " ", "1;", "x", "\xFF", "é", "\n0", "0\x7F"} {
			for _, end := range []string{"", "m", "\a", "\x1B", "\x1B\\", "\x1B[m", "\x18a", "\xC3\xA9"} {
				checkFeed(t, api.Parser{}, "\x1B["+strings.Repeat(s, n)+end)
				checkFeed(t, api.Parser{}, "\x1B]"+strings.Repeat(s, n)+end)
			}
		}
	}
	for _, n := range []int{1 << 10, 1 << 14} {
		checkFeed(t, api.Parser{}, "\x1B["+strings.Repeat("0", n)+"ma")
		checkFeed(t, api.Parser{}, "\x1B]"+strings.Repeat("x", n)+"\aa")
	}
}

// P6.1: a parser that is not proper is treated like the zero parser, for each of the reasons.
func TestFeedNotProper(t *testing.T) {
	for _, c := range wrongParsers() {
		for _, chunk := range []string{"", "a", "\x1B[1m", "\\", "\a", "\x82\xAC", "[1m", "m", "]x\a", "\x18", "\x1B", "\xE2\x82", "7", "\x7F"} {
			want, events := Feed(api.Parser{}, chunk)
			if p, l := Feed(c.p, chunk); p != want || !sameEvents(l, events) {
				t.Errorf("%s: Feed(%q) = %#v, %v; want %#v, %v", c.reason, chunk, p, l, want, events)
			}
			if len(c.p.Buffer) < 1000 {
				checkFeed(t, c.p, chunk)
			}
		}
		if !Idle(c.p) {
			t.Errorf("%s: not idle", c.reason)
		}
	}
}

// P6.1: only the zero parser and the parsers that are not proper are idle.
func TestIdle(t *testing.T) {
	if !Idle(api.Parser{}) {
		t.Error("the zero parser is not idle")
	}
	for _, p := range properParsers()[1:] {
		if Idle(p) {
			t.Errorf("%#v is idle", p)
		}
	}
	for pending := range allPending() {
		if Idle(api.Parser{Pending: pending}) {
			t.Errorf("a parser with %q pending is idle", pending)
		}
	}
}

// P6.1: whether a parser is proper, as far as Idle and Feed tell, for each state and all short strings and lengths.
func TestProper(t *testing.T) {
	var parsers []api.Parser
	for state := -2; state <= 7; state++ {
		for length := range 3 {
			eachString(sampleBytes+"\xF0\xF4\x8F\x90\xED\xE0", length, func(s string) {
				parsers = append(parsers, api.Parser{State: state, Pending: s}, api.Parser{State: state, Buffer: s}, api.Parser{State: state, Pending: s, Buffer: "("})
			})
		}
		for b := range 256 {
			parsers = append(parsers, api.Parser{State: state, Buffer: oneByte(b)}, api.Parser{State: state, Buffer: "((" + oneByte(b)}, api.Parser{State: state, Pending: oneByte(b)})
		}
		for n := range 300 {
			for _, s := range []string{" ", "0", "x", "\xFF", "\x1F"} {
				parsers = append(parsers, api.Parser{State: state, Buffer: strings.Repeat(s, n)})
			}
		}
	}
	for _, p := range parsers {
		if got := Idle(p); got != chapterIdle(p) {
			t.Errorf("Idle(%#v) = %v", p, got)
		}
		checkFeed(t, p, "")
		checkFeed(t, p, "m")
	}
}

// randomStream returns bytes of which many are parts of sequences and characters.
func randomStream(random *rand.Rand, n int) string {
	var b strings.Builder
	for b.Len() < n {
		s := ""
		switch random.Intn(10) {
		case 0, 1:
			s = oneByte(random.Intn(256))
		case 2:
			s = sampleBytes[random.Intn(len(sampleBytes)):][:1]
		case 3:
			s = string(rune(random.Intn(0x110000) >> random.Intn(21)))
		case 4:
			s = "\x1B" + strings.Repeat("#", random.Intn(5)) + "7"
		case 5, 6:
			s = "\x1B[" + []string{"", "?", "1<"}[random.Intn(3)] + strings.Repeat("12;", random.Intn(8)) + []string{"", "0", " ", "!!!"}[random.Intn(4)] + "H"
		case 7:
			s = "\x1B]" + strings.Repeat("0;x", random.Intn(5)) + []string{"\a", "\x1B\\", "\x1B", ""}[random.Intn(4)]
		case 8:
			s = "\x1B" + "[]"[random.Intn(2):][:1] + strings.Repeat("0", 250+random.Intn(12)) + []string{"m", "\a", "\x1B\\"}[random.Intn(3)]
		case 9:
			s = "text\r\n"
		}
		if random.Intn(4) == 0 {
			s = s[:random.Intn(len(s)+1)]
		}
		b.WriteString(s)
	}
	return b.String()
}

// splitStreams are streams with everything that may be cut in the middle.
func splitStreams() []string {
	return []string{
		"aé€😀\xE2\x82\xFF\xF0\x9F\x98",
		"a\x1B7b\x1B(Bc\x1B()[d\x1B(((xe\x1B\x1B7\x1B\x18f\x1Bé",
		"\x1B[m\x1B[?25h\x1B[1;;30 $p\x1B[1\n2\x7FA\x1B[1<m\x1B[10000m\x1B[1\x1B[2J\x1B[1€\x1B[1\x1Ax",
		"\x1B]0;hi\a\x1B]2;é€\x1B\\\x1B]a\nb\x7F\xFF\a\x1B]a\x18b\x1B]a\x1B[1m\x1B]a\x1B\x1B7\x1B]a\x1B\xE2\x82\xAC",
		"\x1B]" + strings.Repeat("x", 258) + "\a\x1B[" + strings.Repeat("0", 256) + "m\x1B[" + strings.Repeat("0", 257) + "ma",
		"\xE2\x1B[\xE2\x82m\xE2\x82\xAC\x1B]\xE2\x82\xAC\x1B\xE2\x82\xAC\\\xE2\x18\xE2\x7F\xE2\x1A\xC2\x85\xC2\x1B",
	}
}

// P6.2: every split of a stream into two chunks, of a short one into three, and byte by byte, with empty chunks.
func TestChunks(t *testing.T) {
	for _, s := range splitStreams() {
		single := []int{0, 0}
		for i := range len(s) {
			single = append(single, i, i)
		}
		for _, p := range properParsers() {
			checkChunks(t, p, s, single...)
		}
		for i := range len(s) + 1 {
			checkChunks(t, api.Parser{}, s, i)
			checkChunks(t, api.Parser{State: 4, Buffer: "ab"}, s, i, i)
			for j := i; j <= len(s) && len(s) < 200; j++ {
				checkChunks(t, api.Parser{}, s, i, j)
			}
		}
	}
	for _, p := range properParsers() {
		for length := range 3 {
			eachString(sampleBytes, length, func(s string) {
				for i := range len(s) + 1 {
					checkChunks(t, p, s, i)
				}
			})
		}
	}
}

// P6.1 and P6.2: random long streams at once and in random chunks.
func TestRandomStreams(t *testing.T) {
	random := rand.New(rand.NewSource(6))
	parsers := properParsers()
	for range 3000 {
		s := randomStream(random, random.Intn(600))
		p := parsers[random.Intn(len(parsers))]
		checkFeed(t, p, s)
		checkChunks(t, p, s, random.Intn(len(s)+1))
		ends := []int{}
		for range random.Intn(12) {
			ends = append(ends, random.Intn(len(s)+1))
		}
		slices.Sort(ends)
		checkChunks(t, p, s, ends...)
	}
	checkFeed(t, api.Parser{}, randomStream(random, 1<<18))
}

// Feed returns new memory: the parameters of an event belong to no other event.
func TestFeedIsNew(t *testing.T) {
	const s = "\x1B[1;2m\x1B[3;4m"
	want := slices.Concat(controlled('m', 1, 2), controlled('m', 3, 4))
	_, l := Feed(api.Parser{}, s)
	l[0].Params = append(l[0].Params, 7)
	clear(l[0].Params)
	if !sameEvents(l[1:], want[1:]) {
		t.Errorf("the second event is %v after the first one was changed", l[1])
	}
	if _, again := Feed(api.Parser{}, s); !sameEvents(again, want) {
		t.Errorf("Feed = %v after its last result was changed", again)
	}
}

// P6.1: Check and Encode, with bytes and errors that are written out.
func TestEncodeCases(t *testing.T) {
	const (
		p = api.PrintEvent
		c = api.ControlEvent
		e = api.EscapeEvent
		s = api.SequenceEvent
		m = api.CommandEvent
	)
	long := strings.Repeat("x", 256)
	for _, v := range []struct {
		name  string
		event api.Event
		want  string
		errno api.Errno
	}{
		{"a letter", api.Event{Kind: p, Rune: 'a'}, "a", api.OK},
		{"the first character", api.Event{Kind: p, Rune: 0x20}, " ", api.OK},
		{"the last one of one byte", api.Event{Kind: p, Rune: 0x7E}, "~", api.OK},
		{"the first one of two bytes", api.Event{Kind: p, Rune: 0xA0}, "\xC2\xA0", api.OK},
		{"three bytes", api.Event{Kind: p, Rune: 0x20AC}, "\xE2\x82\xAC", api.OK},
		{"four bytes", api.Event{Kind: p, Rune: 0x10FFFF}, "\xF4\x8F\xBF\xBF", api.OK},
		{"U+FFFD", api.Event{Kind: p, Rune: 0xFFFD}, "\xEF\xBF\xBD", api.OK},
		{"an empty list of parameters", api.Event{Kind: p, Rune: 'a', Params: []int{}}, "a", api.OK},
		{"the first control character", api.Event{Kind: c}, "\x00", api.OK},
		{"the last control character", api.Event{Kind: c, Code: 0x1F}, "\x1F", api.OK},
		{"an escape sequence", api.Event{Kind: e, Code: '7'}, "\x1B7", api.OK},
		{"an escape sequence with a bracket", api.Event{Kind: e, Inter: " ", Code: '['}, "\x1B [", api.OK},
		{"two intermediate bytes", api.Event{Kind: e, Inter: "#/", Code: '~'}, "\x1B#/~", api.OK},
		{"a control sequence", api.Event{Kind: s, Code: 'm'}, "\x1B[m", api.OK},
		{"a control sequence with everything", api.Event{Kind: s, Private: '?', Params: []int{1, -1, 9999}, Inter: " $", Code: '@'}, "\x1B[?1;;9999 $@", api.OK},
		{"a command without text", api.Event{Kind: m}, "\x1B]\a", api.OK},
		{"a command", api.Event{Kind: m, Text: "2;\x7F\xFFé"}, "\x1B]2;\x7F\xFFé\a", api.OK},
		{"a long command", api.Event{Kind: m, Text: long}, "\x1B]" + long + "\a", api.OK},

		{"no kind", api.Event{}, "", api.ErrKind},
		{"no kind, and fields", api.Event{Rune: 'a', Code: 7}, "", api.ErrKind},
		{"the kind 6", api.Event{Kind: 6}, "", api.ErrKind},
		{"a negative kind", api.Event{Kind: -1, Rune: 'a'}, "", api.ErrKind},
		{"the least kind", api.Event{Kind: math.MinInt}, "", api.ErrKind},
		{"the greatest kind", api.Event{Kind: math.MaxInt}, "", api.ErrKind},
		{"a kind of more than a byte", api.Event{Kind: 257, Rune: 'a'}, "", api.ErrKind},
		{"no character", api.Event{Kind: p}, "", api.ErrArgument},
		{"a control character is not printed", api.Event{Kind: p, Rune: 0x1F}, "", api.ErrArgument},
		{"a delete", api.Event{Kind: p, Rune: 0x7F}, "", api.ErrArgument},
		{"the character 80", api.Event{Kind: p, Rune: 0x80}, "", api.ErrArgument},
		{"the character 9F", api.Event{Kind: p, Rune: 0x9F}, "", api.ErrArgument},
		{"the number D800", api.Event{Kind: p, Rune: 0xD800}, "", api.ErrArgument},
		{"the number DFFF", api.Event{Kind: p, Rune: 0xDFFF}, "", api.ErrArgument},
		{"the number 110000", api.Event{Kind: p, Rune: 0x110000}, "", api.ErrArgument},
		{"a negative number", api.Event{Kind: p, Rune: -1}, "", api.ErrArgument},
		{"a printed character with a code", api.Event{Kind: p, Rune: 'a', Code: 7}, "", api.ErrArgument},
		{"a printed character with a text", api.Event{Kind: p, Rune: 'a', Text: "a"}, "", api.ErrArgument},
		{"a printed character with parameters", api.Event{Kind: p, Rune: 'a', Params: []int{0}}, "", api.ErrArgument},
		{"18", api.Event{Kind: c, Code: 0x18}, "", api.ErrArgument},
		{"1A", api.Event{Kind: c, Code: 0x1A}, "", api.ErrArgument},
		{"1B", api.Event{Kind: c, Code: 0x1B}, "", api.ErrArgument},
		{"20", api.Event{Kind: c, Code: 0x20}, "", api.ErrArgument},
		{"a control character with a character", api.Event{Kind: c, Code: 7, Rune: 7}, "", api.ErrArgument},
		{"a control character with an intermediate byte", api.Event{Kind: c, Code: 7, Inter: "!"}, "", api.ErrArgument},
		{"an escape sequence without a code", api.Event{Kind: e}, "", api.ErrArgument},
		{"an intermediate byte as the code", api.Event{Kind: e, Code: 0x2F}, "", api.ErrArgument},
		{"7F as the code", api.Event{Kind: e, Code: 0x7F}, "", api.ErrArgument},
		{"5B alone", api.Event{Kind: e, Code: '['}, "", api.ErrArgument},
		{"5D alone", api.Event{Kind: e, Code: ']'}, "", api.ErrArgument},
		{"three intermediate bytes", api.Event{Kind: e, Inter: "(((", Code: 'B'}, "", api.ErrArgument},
		{"a digit as an intermediate byte", api.Event{Kind: e, Inter: "(0", Code: 'B'}, "", api.ErrArgument},
		{"an escape sequence with a private marker", api.Event{Kind: e, Private: '?', Code: 'B'}, "", api.ErrArgument},
		{"an escape sequence with parameters", api.Event{Kind: e, Params: []int{1}, Code: 'B'}, "", api.ErrArgument},
		{"a control sequence without a code", api.Event{Kind: s}, "", api.ErrArgument},
		{"3F as the code", api.Event{Kind: s, Code: 0x3F}, "", api.ErrArgument},
		{"7F as the code of a control sequence", api.Event{Kind: s, Code: 0x7F}, "", api.ErrArgument},
		{"the single absent parameter", api.Event{Kind: s, Params: []int{-1}, Code: 'm'}, "", api.ErrArgument},
		{"a parameter that is too great", api.Event{Kind: s, Params: []int{10000}, Code: 'm'}, "", api.ErrArgument},
		{"a parameter less than -1", api.Event{Kind: s, Params: []int{1, -2}, Code: 'm'}, "", api.ErrArgument},
		{"17 parameters", api.Event{Kind: s, Params: make([]int, 17), Code: 'm'}, "", api.ErrArgument},
		{"no private marker", api.Event{Kind: s, Private: '1', Code: 'm'}, "", api.ErrArgument},
		{"three intermediate bytes of a control sequence", api.Event{Kind: s, Inter: "!!!", Code: 'm'}, "", api.ErrArgument},
		{"a letter as an intermediate byte", api.Event{Kind: s, Inter: "a", Code: 'm'}, "", api.ErrArgument},
		{"a control sequence with a text", api.Event{Kind: s, Code: 'm', Text: "m"}, "", api.ErrArgument},
		{"a control sequence with a character", api.Event{Kind: s, Code: 'm', Rune: 'm'}, "", api.ErrArgument},
		{"07 in a command", api.Event{Kind: m, Text: "a\a"}, "", api.ErrArgument},
		{"1F in a command", api.Event{Kind: m, Text: "\x1Fa"}, "", api.ErrArgument},
		{"257 bytes in a command", api.Event{Kind: m, Text: long + "x"}, "", api.ErrArgument},
		{"a command with a code", api.Event{Kind: m, Text: "a", Code: 7}, "", api.ErrArgument},
	} {
		got, errno := Encode(v.event)
		if got != v.want || errno != v.errno || Check(v.event) != v.errno {
			t.Errorf("%s: Encode = %q, %d, Check = %d; want %q, %d", v.name, got, errno, Check(v.event), v.want, v.errno)
		}
		checkEncode(t, v.event)
	}
}

// checkEncode compares Check and Encode with the chapter, and feeds what Encode returns. It returns whether the event is one.
func checkEncode(t *testing.T, e api.Event) bool {
	t.Helper()
	want, errno := chapterEncode(e)
	got, found := Encode(e)
	if checked := Check(e); got != want || found != errno || checked != errno {
		t.Fatalf("%v: Encode = %q, %d, Check = %d; want %q, %d", e, got, found, checked, want, errno)
	}
	if errno != api.OK {
		return false
	}
	if p, l := Feed(api.Parser{}, got); p != (api.Parser{}) || !sameEvents(l, []api.Event{e}) {
		t.Fatalf("Feed(%q) = %#v, %v; want %v", got, p, l, e)
	}
	return true
}

// P6.1 and P6.3: every character, and the numbers that are none.
func TestEncodeCharacters(t *testing.T) {
	for r := rune(-300); r <= 0x110300; r++ {
		checkEncode(t, api.Event{Kind: api.PrintEvent, Rune: r})
	}
	for _, r := range []rune{math.MinInt32, math.MinInt32 + 'a', -0x20AC, 0x200061, math.MaxInt32} {
		if checkEncode(t, api.Event{Kind: api.PrintEvent, Rune: r}) {
			t.Errorf("%X is a character", r)
		}
	}
}

// P6.1 and P6.3: every code of every kind of event, with every intermediate byte.
func TestEncodeCodes(t *testing.T) {
	for code := range 256 {
		b := byte(code)
		for kind := -1; kind <= 7; kind++ {
			checkEncode(t, api.Event{Kind: kind, Code: b})
			for inter := range 256 {
				checkEncode(t, api.Event{Kind: kind, Inter: oneByte(inter), Code: b})
				checkEncode(t, api.Event{Kind: kind, Inter: "!" + oneByte(inter), Code: b})
			}
			for _, inter := range []string{"(((", "!\"#$", strings.Repeat(" ", 300), "\x1B", "\u00A0"} {
				checkEncode(t, api.Event{Kind: kind, Inter: inter, Code: b})
			}
		}
		checkEncode(t, api.Event{Kind: api.SequenceEvent, Private: b, Code: 'm'})
		checkEncode(t, api.Event{Kind: api.SequenceEvent, Private: b, Params: []int{4}, Code: 'm'})
	}
}

// P6.1 and P6.3: every byte in a command, and every length of one up to beyond the limit.
func TestEncodeCommands(t *testing.T) {
	for length := range 3 {
		eachString(sampleBytes, length, func(s string) {
			checkEncode(t, api.Event{Kind: api.CommandEvent, Text: s})
		})
	}
	for b := range 256 {
		for _, text := range []string{oneByte(b), "0;" + oneByte(b), oneByte(b) + "x"} {
			checkEncode(t, api.Event{Kind: api.CommandEvent, Text: text})
		}
	}
	for n := range 600 {
		for _, s := range []string{"x", "\xFF", " ", "\x1F", "é"} {
			checkEncode(t, api.Event{Kind: api.CommandEvent, Text: strings.Repeat(s, n)})
		}
	}
}

// P6.1 and P6.3: parameters at and beyond the limits.
func TestEncodeParams(t *testing.T) {
	numbers := []int{math.MinInt, -2, -1, 0, 1, 10, 9999, 10000, math.MaxInt}
	for _, a := range numbers {
		checkEncode(t, api.Event{Kind: api.SequenceEvent, Params: []int{a}, Code: 'm'})
		for _, b := range numbers {
			checkEncode(t, api.Event{Kind: api.SequenceEvent, Params: []int{a, b}, Code: 'm'})
			checkEncode(t, api.Event{Kind: api.SequenceEvent, Private: '?', Params: []int{a, 3, b}, Inter: "$", Code: 'h'})
		}
		for n := range 30 {
			checkEncode(t, api.Event{Kind: api.SequenceEvent, Params: slices.Repeat([]int{a}, n), Code: 'm'})
			checkEncode(t, api.Event{Kind: api.SequenceEvent, Private: '>', Params: slices.Repeat([]int{a}, n), Inter: "!!", Code: 'm'})
		}
	}
}

// P6.1 and P6.3: all combinations of some values of the fields, so that each kind has each other field.
func TestEncodeFields(t *testing.T) {
	lists := [][]int{nil, {}, {1}, {-1}, {0, -1}, {-2}, {10000}}
	for _, kind := range []int{0, 1, 2, 3, 4, 5, 6} {
		for _, r := range []rune{0, 7, 'a', 0x85, 0x20AC, -1} {
			for _, code := range []byte{0, 7, 0x18, 0x2F, '0', '[', 'm', 0x7F, 0xFF} {
				for _, private := range []byte{0, '?', 'x'} {
					for _, inter := range []string{"", "(", "!!", "!!!", "a"} {
						for _, params := range lists {
							for _, text := range []string{"", "a", "\x1F"} {
								checkEncode(t, api.Event{Kind: kind, Rune: r, Code: code, Private: private, Inter: inter, Params: params, Text: text})
							}
						}
					}
				}
			}
		}
	}
}

// Check and Encode do not change the parameters of an event.
func TestEncodeKeepsParams(t *testing.T) {
	params := []int{1, -1, 300}
	e := api.Event{Kind: api.SequenceEvent, Params: params, Code: 'm'}
	Check(e)
	Encode(e)
	if !slices.Equal(params, []int{1, -1, 300}) {
		t.Errorf("the parameters are %v", params)
	}
}

// sequences are escape sequences and control sequences of every form.
func sequences() []api.Event {
	return slices.Concat(
		escaped("", '7'), escaped("", '\\'), escaped("", '~'), escaped("(", 'B'), escaped(" ", '['), escaped("#/", ']'), escaped("#/", '0'),
		controlled('m'), controlled('H', 1, 30), controlled('A', 0), controlled('~', -1, -1), controlled('@', 9999, -1, 7),
		controlled('[', slices.Repeat([]int{9999}, 16)...),
		[]api.Event{
			{Kind: api.SequenceEvent, Private: '?', Params: []int{25}, Code: 'h'},
			{Kind: api.SequenceEvent, Private: '<', Code: ']'},
			{Kind: api.SequenceEvent, Inter: "!", Code: 'p'},
			{Kind: api.SequenceEvent, Private: '=', Params: []int{1, -1}, Inter: "  ", Code: '\\'},
		})
}

// sampleEvents are events of every kind.
func sampleEvents() []api.Event {
	return slices.Concat(
		printed(' ', 'a', '[', ']', '\\', 'm', '7', ';', '(', 0xA0, 0xE9, 0x20AC, 0xFFFD, 0x1F600),
		controls(0, 7, 8, 10, 13, 0x17, 0x19, 0x1C, 0x1F), sequences(),
		commanded(""), commanded("0;hi"), commanded("2;é€"), commanded("\\[]7m"), commanded("\x7F\x80\xFF\xE2\x82"),
		commanded(strings.Repeat("x", 255)), commanded(strings.Repeat("\xFF", 256)))
}

// encodeAll returns the bytes of all events of a list.
func encodeAll(t *testing.T, l []api.Event) string {
	t.Helper()
	var b strings.Builder
	for _, e := range l {
		s, errno := Encode(e)
		if errno != api.OK {
			t.Fatalf("Encode(%v) = %d", e, errno)
		}
		b.WriteString(s)
	}
	return b.String()
}

// checkRoundTrip feeds the bytes of a list of events to the zero parser.
func checkRoundTrip(t *testing.T, l []api.Event) {
	t.Helper()
	s := encodeAll(t, l)
	if p, found := Feed(api.Parser{}, s); p != (api.Parser{}) || !sameEvents(found, l) || !Idle(p) {
		t.Fatalf("Feed(%q) = %#v, %v; want %v", s, p, found, l)
	}
}

// P6.3: no event, all lists of up to two events of every kind, and random long lists.
func TestRoundTrip(t *testing.T) {
	checkRoundTrip(t, nil)
	checkRoundTrip(t, []api.Event{})
	events := sampleEvents()
	checkRoundTrip(t, events)
	for _, a := range events {
		checkRoundTrip(t, []api.Event{a})
		for _, b := range events {
			checkRoundTrip(t, []api.Event{a, b})
		}
	}
	random := rand.New(rand.NewSource(66))
	for range 2000 {
		var l []api.Event
		for range random.Intn(60) {
			l = append(l, randomEvent(random, events))
		}
		checkRoundTrip(t, l)
	}
}

// randomEvent returns an event of a list, or one with random fields.
func randomEvent(random *rand.Rand, events []api.Event) api.Event {
	e := events[random.Intn(len(events))]
	switch random.Intn(4) {
	case 0:
		e = api.Event{Kind: api.PrintEvent, Rune: 0xA0 + rune(random.Intn(0xD700))}
	case 1:
		e = api.Event{Kind: api.SequenceEvent, Private: "\x00<=>?"[random.Intn(5)], Code: byte(0x40 + random.Intn(63))}
		for range 2 + random.Intn(15) {
			e.Params = append(e.Params, random.Intn(10001)-1)
		}
	}
	return e
}

// P6.3: what Feed finds in any stream is found again in the encoded events.
func TestRoundTripOfStreams(t *testing.T) {
	random := rand.New(rand.NewSource(666))
	for range 1000 {
		_, l := Feed(api.Parser{}, randomStream(random, random.Intn(500)))
		checkRoundTrip(t, l)
	}
}

// checkResynchronized feeds a stream and the byte 18 to a parser; what is read then is read as by the zero parser.
func checkResynchronized(t *testing.T, p api.Parser, s string) {
	t.Helper()
	q, before := Feed(p, s+"\x18")
	if q != (api.Parser{}) {
		t.Fatalf("Feed(%#v, %q and 18) = %#v", p, s, q)
	}
	const rest = "m\\\a[1m\x1B[1mé"
	_, after := Feed(api.Parser{}, rest)
	if q, l := Feed(p, s+"\x18"+rest); q != (api.Parser{}) || !sameEvents(l, slices.Concat(before, after)) {
		t.Fatalf("Feed(%#v, %q, 18 and more) = %#v, %v; want %v and %v", p, s, q, l, before, after)
	}
}

// P6.4: after a byte 18 the parser is the zero parser, whatever was read before.
func TestCancel(t *testing.T) {
	for _, p := range properParsers() {
		for length := range 3 {
			eachString(sampleBytes, length, func(s string) { checkResynchronized(t, p, s) })
		}
	}
	for _, c := range wrongParsers() {
		checkResynchronized(t, c.p, "")
		checkResynchronized(t, c.p, "\x1B[1")
	}
	for pending := range allPending() {
		checkResynchronized(t, api.Parser{Pending: pending}, "")
	}
	random := rand.New(rand.NewSource(6666))
	for range 2000 {
		checkResynchronized(t, api.Parser{}, randomStream(random, random.Intn(400)))
	}
	for _, s := range splitStreams() {
		for i := range len(s) + 1 {
			checkResynchronized(t, api.Parser{}, s[:i])
		}
	}
}

// checkEvents feeds a stream to the zero parser.
func checkEvents(t *testing.T, s string, want ...api.Event) {
	t.Helper()
	if p, l := Feed(api.Parser{}, s); p != (api.Parser{}) || !sameEvents(l, want) {
		t.Fatalf("Feed(%q) = %#v, %v; want %v", s, p, l, want)
	}
}

// P6.4: every control character at every place within a sequence is reported before it, and a delete is ignored.
func TestControlsWithinSequences(t *testing.T) {
	for _, e := range sequences() {
		s := encodeAll(t, []api.Event{e})
		for i := 1; i < len(s); i++ {
			for b := range 0x20 {
				if b == 0x18 || b == 0x1A || b == 0x1B {
					continue
				}
				code := oneByte(b)
				want := controls(byte(b))[0]
				checkEvents(t, s[:i]+code+s[i:], want, e)
				checkEvents(t, s[:i]+code+"\a"+s[i:], want, controls(7)[0], e)
			}
			checkEvents(t, s[:i]+"\x7F"+s[i:], e)
		}
		all, want := "\x1B", []api.Event{}
		for i := 1; i < len(s); i++ {
			all += oneByte(i%8) + s[i:i+1]
			want = append(want, controls(byte(i%8))...)
		}
		checkEvents(t, all, append(want, e)...)
	}
}

// P6.1: the control characters within a command that neither end nor cancel it are ignored.
func TestControlsWithinCommands(t *testing.T) {
	const s = "\x1B]0;é\\7\a"
	for i := 2; i < len(s); i++ {
		for b := range 0x20 {
			if b == 7 || b == 0x18 || b == 0x1A || b == 0x1B {
				continue
			}
			checkEvents(t, s[:i]+oneByte(b)+s[i:], commanded("0;é\\7")...)
		}
	}
	for b := range 0x20 {
		if b == 0x18 || b == 0x1A || b == 0x1B {
			continue
		}
		checkEvents(t, fmt.Sprintf("\x1B]a\x1B%c7", b), slices.Concat(controls(byte(b)), escaped("", '7'))...)
	}
}
