package terminal

import (
	"math"
	"slices"
	"strings"
	"testing"

	"narrator/api"
	"narrator/cellrow"
)

// at returns a cursor without Pending.
func at(row, col int) api.Cursor { return api.Cursor{Row: row, Col: col} }

// pending returns a cursor with Pending.
func pending(row, col int) api.Cursor { return api.Cursor{Row: row, Col: col, Pending: true} }

// picture returns the texts of rows, divided by bars. A blank cell for another color than the default one is #.
func picture(rows [][]api.Cell) string {
	parts := []string{}
	for _, l := range rows {
		text := ""
		for _, c := range l {
			if c.Text == " " && c.Attr.Back != -1 {
				c.Text = "#"
			}
			text += c.Text
		}
		parts = append(parts, text)
	}
	return strings.Join(parts, "|")
}

// A scene is a stream that is written to a new terminal, with the grid and the cursor that are expected, and the scrollback.
type scene struct {
	width, height int
	stream        string
	want          string
	cursor        api.Cursor
	back          string
}

// play compares the program with scenes.
func play(t *testing.T, scenes []scene) {
	t.Helper()
	for _, s := range scenes {
		got := written(s.width, s.height, s.stream)
		if p := picture(got.Grid.Rows); p != s.want || got.Cursor != s.cursor || picture(got.Back) != s.back {
			t.Errorf("%d by %d, %q: %q, cursor %v, back %q, want %q, %v, %q", s.width, s.height, s.stream, p, got.Cursor, picture(got.Back), s.want, s.cursor, s.back)
		}
		if Check(got) != api.OK || chapterCheck(got) != api.OK {
			t.Errorf("%d by %d, %q: the terminal %v is not proper", s.width, s.height, s.stream, got)
		}
		if d := difference(got, chapterWrite(chapterNew(s.width, s.height), s.stream)); d != "" {
			t.Errorf("%d by %d, %q: %s", s.width, s.height, s.stream, d)
		}
	}
}

// P13.1: the examples of the chapter.
func TestExamples(t *testing.T) {
	play(t, []scene{
		{5, 2, "abcdefg", "abcde|fg   ", at(1, 2), ""},
		{5, 2, "abcdefg\r\x1b[2JX", "     |X    ", at(1, 1), ""},
	})
	x, reply := Replies(written(5, 2, "abcdefg\r\x1b[2JX\x1b[6n"))
	if reply != "\x1b[2;2R" || x.Reply != "" {
		t.Errorf("the reply is %q, and then %q", reply, x.Reply)
	}
}

// P13.1: new terminals of all widths, with heights at and around the limits and one between, and the sizes beyond them.
func TestNew(t *testing.T) {
	for width := -2; width <= 135; width++ {
		for _, height := range []int{-2, -1, 0, 1, 2, 1 + (width+200)%60, 59, 60, 61, 62} {
			got, e := New(width, height)
			if width < 1 || width > 132 || height < 1 || height > 60 {
				if e != api.ErrRange || difference(got, api.Terminal{}) != "" {
					t.Fatalf("New(%d, %d): %v, error %d", width, height, got, e)
				}
				continue
			}
			if d := difference(got, chapterNew(width, height)); e != api.OK || d != "" {
				t.Fatalf("New(%d, %d): %s, error %d", width, height, d, e)
			}
			if Check(got) != api.OK {
				t.Fatalf("New(%d, %d) is not proper", width, height)
			}
		}
	}
	for _, n := range []int{math.MinInt, math.MaxInt, 1 << 32, 1<<32 + 5} {
		if got, e := New(n, 1); e != api.ErrRange || difference(got, api.Terminal{}) != "" {
			t.Errorf("New(%d, 1): %v, error %d", n, got, e)
		}
		if got, e := New(1, n); e != api.ErrRange || difference(got, api.Terminal{}) != "" {
			t.Errorf("New(1, %d): %v, error %d", n, got, e)
		}
	}
}

// P13.1: narrow characters at the end of a row, with and without wrapping.
func TestPrintingNarrow(t *testing.T) {
	play(t, []scene{
		{4, 2, "", "    |    ", at(0, 0), ""},
		{4, 2, "ab", "ab  |    ", at(0, 2), ""},
		{4, 2, "abc", "abc |    ", at(0, 3), ""},
		{4, 2, "abcd", "abcd|    ", pending(0, 3), ""},
		{4, 2, "abcde", "abcd|e   ", at(1, 1), ""},
		{4, 2, "abcdefgh", "abcd|efgh", pending(1, 3), ""},
		{4, 2, "abcdefghi", "efgh|i   ", at(1, 1), "abcd"},
		{4, 2, "\x1b[?7labcd", "abcd|    ", at(0, 3), ""},
		{4, 2, "\x1b[?7labcdef", "abcf|    ", at(0, 3), ""},
		{4, 2, "abcd\x1b[?7le", "abce|    ", at(0, 3), ""},
		{4, 2, "\x1b[?7labcd\x1b[?7he", "abce|    ", pending(0, 3), ""},
		{4, 2, "abcd\x1b[D\x1b[Ce", "abce|    ", pending(0, 3), ""},
		{1, 2, "a", "a| ", pending(0, 0), ""},
		{1, 2, "ab", "a|b", pending(1, 0), ""},
		{1, 2, "abc", "b|c", pending(1, 0), "a"},
		{1, 1, "ab", "b", pending(0, 0), "a"},
		{1, 1, "\x1b[?7lab", "b", at(0, 0), ""},
		{3, 1, "ab\u0085c\x7fd", "d  ", at(0, 1), "abc"},
		{3, 1, "\u00a0\ufffd\U0010FFFF", "\u00a0\ufffd\U0010FFFF", pending(0, 2), ""},
	})
}

// P13.1: wide characters in the last column, in the one before it, and in a terminal of one column.
func TestPrintingWide(t *testing.T) {
	play(t, []scene{
		{4, 2, "漢", "漢  |    ", at(0, 2), ""},
		{4, 2, "a漢", "a漢 |    ", at(0, 3), ""},
		{4, 2, "ab漢", "ab漢|    ", pending(0, 3), ""},
		{4, 2, "abc漢", "abc |漢  ", at(1, 2), ""},
		{4, 2, "abcd漢", "abcd|漢  ", at(1, 2), ""},
		{4, 2, "漢字語", "漢字|語  ", at(1, 2), ""},
		{4, 1, "abc漢", "漢  ", at(0, 2), "abc "},
		{4, 1, "abcd漢", "漢  ", at(0, 2), "abcd"},
		{4, 2, "\x1b[?7lab漢", "ab漢|    ", at(0, 3), ""},
		{4, 2, "\x1b[?7labc漢", "ab漢|    ", at(0, 3), ""},
		{4, 2, "abcd\x1b[?7l漢", "ab漢|    ", at(0, 3), ""},
		{4, 2, "\x1b[?7la漢字", "a 字|    ", at(0, 3), ""},
		{2, 2, "漢字", "漢|字", pending(1, 1), ""},
		{2, 2, "a漢", "a |漢", pending(1, 1), ""},
		{2, 1, "\x1b[?7la漢", "漢", at(0, 1), ""},
		{1, 2, "漢", " | ", at(0, 0), ""},
		{1, 2, "a漢", "a| ", pending(0, 0), ""},
		{1, 2, "\x1b[?7la漢", "a| ", at(0, 0), ""},
		{1, 2, "a\x1b[4h漢", "a| ", pending(0, 0), ""},
		{4, 1, "漢字\rx", "x 字", at(0, 1), ""},
		{4, 1, "漢字\x1b[2Gx", " x字", at(0, 2), ""},
		{4, 1, "漢字\x1b[2G語", " 語 ", at(0, 3), ""},
		{4, 1, "\x1b[44m漢\x1b[40m字\x1b[2Gx", "#x字", at(0, 2), ""},
	})
}

// P13.1: printing with the mode Insert.
func TestPrintingInserted(t *testing.T) {
	play(t, []scene{
		{4, 1, "abc\x1b[4h\x1b[2GX", "aXbc", at(0, 2), ""},
		{4, 1, "abcd\x1b[4h\rX", "Xabc", at(0, 1), ""},
		{4, 1, "abcd\x1b[4h\rX\x1b[4lY", "XYbc", at(0, 2), ""},
		{4, 1, "abcd\x1b[4h\x1b[D\x1b[CX", "abcX", pending(0, 3), ""},
		{4, 2, "abcd\x1b[4hX", "abcd|X   ", at(1, 1), ""},
		{4, 2, "abcd\x1b[4h\x1b[?7lX", "abcX|    ", at(0, 3), ""},
		{5, 1, "abcd\x1b[4h\x1b[2G漢", "a漢bc", at(0, 3), ""},
		{5, 1, "abcd\x1b[4h\x1b[4G漢", "abc漢", pending(0, 4), ""},
		{4, 2, "abc\x1b[4h漢", "abc |漢  ", at(1, 2), ""},
		{4, 2, "abcd\x1b[4h漢", "abcd|漢  ", at(1, 2), ""},
		{4, 2, "\x1b[2;1Hwxyz\x1b[1;1Habcd\x1b[4h漢", "abcd|漢wx", at(1, 2), ""},
		{4, 1, "\x1b[?7labc\x1b[4h漢", "ab漢", at(0, 3), ""},
		{4, 1, "ab漢\x1b[4h\rX", "Xab ", at(0, 1), ""},
		{4, 1, "ab\x1b[44m漢\x1b[4h\rX", "Xab#", at(0, 1), ""},
		{4, 1, "a漢b\x1b[4h\x1b[3GX", "a X ", at(0, 3), ""},
		{1, 1, "a\x1b[4h\x1b[DX", "X", pending(0, 0), ""},
	})
}

// P13.1: what is printed has the rendition, and the character set applies to it.
func TestPrintedCells(t *testing.T) {
	x := written(5, 1, "\x1b[1;31;44ma漢\x1b[0m\x1b(0q\x1b(Bq")
	a := api.Attr{Fore: 1, Back: 4, Flags: api.Bold}
	want := []api.Cell{
		{Text: "a", Width: 1, Attr: a}, {Text: "漢", Width: 2, Attr: a}, {Attr: a},
		{Text: "\u2500", Width: 1, Attr: plain}, {Text: "q", Width: 1, Attr: plain},
	}
	if !slices.Equal(x.Grid.Rows[0], want) {
		t.Errorf("the cells are %v, want %v", x.Grid.Rows[0], want)
	}
	play(t, []scene{
		{4, 1, "\x1b)0q\x0eq\x0fqq", "q\u2500qq", pending(0, 3), ""},
		{4, 1, "\x1b(0q\x0eq\x1b)0q\x0fq", "\u2500q\u2500\u2500", pending(0, 3), ""},
		{4, 1, "\x1b(0_Q~\x1b)0", "\u00a0Q\u00b7 ", at(0, 3), ""},
		{2, 1, "\x1b(0漢", "漢", pending(0, 1), ""},
	})
}

// P13.1: marks are attached to the cell before the cursor, or to the one under it behind Pending.
func TestMarks(t *testing.T) {
	play(t, []scene{
		{3, 1, "\u0301", "   ", at(0, 0), ""},
		{3, 2, "abc\r\n\u0301", "abc|   ", at(1, 0), ""},
		{3, 1, "e\u0301", "e\u0301  ", at(0, 1), ""},
		{3, 1, "e\u0301x", "e\u0301x ", at(0, 2), ""},
		{3, 1, "e\u0301\u0302\u0303", "e\u0301\u0302\u0303  ", at(0, 1), ""},
		{3, 1, "e\u0301\u0302\u0303\u0304", "e\u0301\u0302\u0303  ", at(0, 1), ""},
		{3, 1, "ab\u0301", "ab\u0301 ", at(0, 2), ""},
		{3, 1, "abc\u0301", "abc\u0301", pending(0, 2), ""},
		{3, 1, "abc\x1b[?7l\u0301", "abc\u0301", pending(0, 2), ""},
		{3, 1, "abc\x1b[D\x1b[C\u0301", "ab\u0301c", at(0, 2), ""},
		{3, 1, "\x1b[?7labc\u0301", "ab\u0301c", at(0, 2), ""},
		{1, 1, "a\u0301", "a\u0301", pending(0, 0), ""},
		{1, 1, "\x1b[?7la\u0301", "a", at(0, 0), ""},
		{4, 1, "漢\u0301", "漢\u0301  ", at(0, 2), ""},
		{4, 1, "a漢\u0301", "a漢\u0301 ", at(0, 3), ""},
		{2, 1, "漢\u0301", "漢\u0301", pending(0, 1), ""},
		{4, 1, "漢a\x1b[2G\u0301", "漢\u0301a ", at(0, 1), ""},
		{4, 1, "漢a\x1b[3G\u0301", "漢\u0301a ", at(0, 2), ""},
		{2, 1, "漢\x1b[D\x1b[C\u0301", "漢\u0301", at(0, 1), ""},
		{3, 1, "漢\u0301\u0302\u0303\u0304", "漢\u0301\u0302\u0303 ", at(0, 2), ""},
		{3, 1, "\x1b[2C\u0301", "  \u0301 ", at(0, 2), ""},
		{3, 1, "x\uFE0F\u200B", "x\uFE0F\u200B  ", at(0, 1), ""},
		{3, 1, "ab\x1b[4h\u0301", "ab\u0301 ", at(0, 2), ""},
	})
}

// P13.1: a concealed mark is attached to concealed cells only, and a mark never changes the rendition of its cell.
func TestConcealedMarks(t *testing.T) {
	for _, c := range []struct{ stream, want string }{
		{"e\x1b[8m\u0301", "e  "},
		{"\x1b[8me\u0301", "e\u0301  "},
		{"\x1b[8me\x1b[28m\u0301", "e\u0301  "},
		{"\x1b[8;1me\x1b[22m\u0301", "e\u0301  "},
		{"\x1b[8me\x1b[0;8m\u0301", "e\u0301  "},
		{"\x1b[1me\x1b[0;8m\u0301", "e  "},
		{"\x1b[8m漢\u0301", "漢\u0301 "},
		{"漢\x1b[8m\u0301", "漢 "},
		{"\x1b[8m漢\x1b[0m\u0301", "漢\u0301 "},
		{"\x1b[31;44me\x1b[32;45m\u0301", "e\u0301  "},
		{"ab\x1b[8mc\u0301", "abc\u0301"},
		{"abc\x1b[8m\u0301", "abc"},
	} {
		before := written(3, 1, strings.ReplaceAll(c.stream, "\u0301", ""))
		got := written(3, 1, c.stream)
		if p := picture(got.Grid.Rows); p != c.want || got.Cursor != before.Cursor {
			t.Errorf("%q: %q, cursor %v, want %q, %v", c.stream, p, got.Cursor, c.want, before.Cursor)
		}
		for col, cell := range got.Grid.Rows[0] {
			if was := before.Grid.Rows[0][col]; cell.Attr != was.Attr || cell.Width != was.Width {
				t.Errorf("%q: the cell %d is %v, and without the mark %v", c.stream, col, cell, was)
			}
		}
	}
}

// P13.1: the control characters that move the cursor.
func TestControls(t *testing.T) {
	play(t, []scene{
		{3, 2, "ab\b", "ab |   ", at(0, 1), ""},
		{3, 2, "ab\b\b\b", "ab |   ", at(0, 0), ""},
		{3, 2, "abc\b", "abc|   ", at(0, 1), ""},
		{3, 2, "abcd\r\b", "abc|d  ", at(1, 0), ""},
		{1, 1, "a\b", "a", at(0, 0), ""},
		{20, 1, "\t", strings.Repeat(" ", 20), at(0, 8), ""},
		{20, 1, "a\t", "a" + strings.Repeat(" ", 19), at(0, 8), ""},
		{20, 1, "\t\t", strings.Repeat(" ", 20), at(0, 16), ""},
		{20, 1, "\t\t\t", strings.Repeat(" ", 20), at(0, 19), ""},
		{20, 1, "\t\t\t\t", strings.Repeat(" ", 20), at(0, 19), ""},
		{4, 1, "abcd\t", "abcd", at(0, 3), ""},
		{1, 1, "a\t", "a", at(0, 0), ""},
		{3, 2, "a\nb", "a  | b ", at(1, 2), ""},
		{3, 2, "a\vb", "a  | b ", at(1, 2), ""},
		{3, 2, "a\fb", "a  | b ", at(1, 2), ""},
		{3, 2, "abc\nd", "abc|  d", pending(1, 2), ""},
		{3, 2, "a\n\n", "   |   ", at(1, 1), "a  "},
		{3, 2, "\x1b[20ha\nb", "a  |b  ", at(1, 1), ""},
		{3, 2, "\x1b[20ha\vb", "a  |b  ", at(1, 1), ""},
		{3, 2, "\x1b[20ha\fb", "a  |b  ", at(1, 1), ""},
		{3, 2, "\x1b[20habc\n\n", "   |   ", at(1, 0), "abc"},
		{3, 2, "ab\rc", "cb |   ", at(0, 1), ""},
		{3, 2, "abc\r", "abc|   ", at(0, 0), ""},
		{3, 2, "abc\rd", "dbc|   ", at(0, 1), ""},
	})
	for _, c := range []struct {
		stream string
		shift  int
	}{{"\x0e", 1}, {"\x0e\x0e", 1}, {"\x0e\x0f", 0}, {"\x0f", 0}} {
		if got := written(2, 1, c.stream); got.Modes.Shift != c.shift {
			t.Errorf("%q: Shift is %d, want %d", c.stream, got.Modes.Shift, c.shift)
		}
	}
}

// P13.1: the control characters and escape sequences that have no effect.
func TestWithoutEffect(t *testing.T) {
	before := written(3, 2, "\x1b)0\x0eabc\x1b7\x1b[1m\x1b[6n")
	check := func(e api.Event) {
		t.Helper()
		if d := difference(Do(before, e), before); d != "" {
			t.Errorf("%v: %s", e, d)
		}
	}
	for code := range byte(32) {
		if strings.IndexByte("\b\t\n\v\f\r\x0e\x0f", code) < 0 {
			check(api.Event{Kind: api.ControlEvent, Code: code})
		}
	}
	for code := byte(0x30); code <= 0x7E; code++ {
		for _, inter := range []string{"", " ", "#", "$", "%", "*", "+", "-", ".", "/", "((", "()", "))", "(#"} {
			if inter != "" || strings.IndexByte("78DEMHc", code) < 0 {
				check(api.Event{Kind: api.EscapeEvent, Inter: inter, Code: code})
			}
		}
		for _, inter := range []string{"(", ")"} {
			if code != 'B' && code != '0' {
				check(api.Event{Kind: api.EscapeEvent, Inter: inter, Code: code})
			}
		}
	}
	for code := byte(0x40); code <= 0x7E; code++ {
		if strings.IndexByte("@ABCDEFGHIJKLMPSTXZ`adefghlmnrsu", code) < 0 {
			for _, params := range [][]int{nil, {0}, {1}, {2, 3}, {6}, {9999}} {
				check(api.Event{Kind: api.SequenceEvent, Params: params, Code: code})
			}
		}
	}
}

// P13.1: an event that layer 6's Check rejects changes nothing.
func TestRejectedEvents(t *testing.T) {
	before := written(4, 2, "ab\x1b7c")
	for _, e := range []api.Event{
		{},
		{Kind: -1, Rune: 'x'},
		{Kind: 6, Rune: 'x', Code: 'A', Text: "0;x"},
		{Kind: math.MaxInt, Code: '\n'},
		{Kind: api.PrintEvent},
		{Kind: api.PrintEvent, Rune: '\n'},
		{Kind: api.PrintEvent, Rune: 0x7F},
		{Kind: api.PrintEvent, Rune: 0x9F},
		{Kind: api.PrintEvent, Rune: -1},
		{Kind: api.PrintEvent, Rune: 0xD800},
		{Kind: api.PrintEvent, Rune: 0x110000},
		{Kind: api.PrintEvent, Rune: 'x', Code: 1},
		{Kind: api.PrintEvent, Rune: 'x', Text: "x"},
		{Kind: api.ControlEvent, Code: 0x1B},
		{Kind: api.ControlEvent, Code: 0x18},
		{Kind: api.ControlEvent, Code: ' '},
		{Kind: api.ControlEvent, Code: '\n', Rune: 'x'},
		{Kind: api.ControlEvent, Code: '\n', Params: []int{1}},
		{Kind: api.EscapeEvent, Code: '['},
		{Kind: api.EscapeEvent, Code: ' '},
		{Kind: api.EscapeEvent, Code: 'c', Private: '?'},
		{Kind: api.EscapeEvent, Inter: "(((", Code: '0'},
		{Kind: api.EscapeEvent, Inter: "x", Code: '0'},
		{Kind: api.SequenceEvent, Code: '?'},
		{Kind: api.SequenceEvent, Code: 'C', Params: []int{-1}},
		{Kind: api.SequenceEvent, Code: 'C', Params: []int{-2}},
		{Kind: api.SequenceEvent, Code: 'C', Params: []int{10000}},
		{Kind: api.SequenceEvent, Code: 'C', Params: make([]int, 17)},
		{Kind: api.SequenceEvent, Code: 'C', Private: 'x'},
		{Kind: api.SequenceEvent, Code: 'J', Text: "x"},
		{Kind: api.SequenceEvent, Code: 'h', Private: '?', Params: []int{6}, Inter: "   "},
		{Kind: api.CommandEvent, Text: "0;\n"},
		{Kind: api.CommandEvent, Text: "0;" + strings.Repeat("x", 255)},
		{Kind: api.CommandEvent, Text: "0;x", Code: 7},
	} {
		if d := difference(Do(before, e), before); d != "" {
			t.Errorf("%v: %s", e, d)
		}
	}
}

// numbered returns a stream of rows for the numbers from one to another, by which neighboring rows can be told apart.
func numbered(from, to int) string {
	parts := []string{}
	for n := from; n <= to; n++ {
		parts = append(parts, strings.Repeat(string(rune('a'+n%26)), 1+n%2))
	}
	return strings.Join(parts, "\r\n")
}

// P13.1, P13.5: line feeds inside of the scroll region, at its end, and outside of it.
func TestLineFeeds(t *testing.T) {
	const rows = "a\r\nb\r\nc\r\nd"
	play(t, []scene{
		{2, 4, rows, "a |b |c |d ", at(3, 1), ""},
		{2, 4, rows + "\x1b[1;1H\n", "a |b |c |d ", at(1, 0), ""},
		{2, 4, rows + "\n", "b |c |d |  ", at(3, 1), "a "},
		{2, 4, rows + "\n\n\n", "d |  |  |  ", at(3, 1), "a |b |c "},
		{2, 4, rows + "\x1bD", "b |c |d |  ", at(3, 1), "a "},
		{2, 4, rows + "\x1bE", "b |c |d |  ", at(3, 0), "a "},
		{2, 4, rows + "\x1b[1;3r\x1b[3;2H\n", "b |c |  |d ", at(2, 1), "a "},
		{2, 4, rows + "\x1b[1;3r\x1b[2;2H\n", "a |b |c |d ", at(2, 1), ""},
		{2, 4, rows + "\x1b[1;3r\x1b[4;2H\n", "a |b |c |d ", at(3, 1), ""},
		{2, 4, rows + "\x1b[2;3r\x1b[3;2H\n", "a |c |  |d ", at(2, 1), ""},
		{2, 4, rows + "\x1b[2;3r\x1b[1;2H\n", "a |b |c |d ", at(1, 1), ""},
		{2, 4, rows + "\x1b[2;3r\x1b[4;2H\n\n", "a |b |c |d ", at(3, 1), ""},
		{2, 4, rows + "\x1b[2;4r\x1b[4;2H\n", "a |c |d |  ", at(3, 1), ""},
		{2, 4, rows + "\x1b[44m\n", "b |c |d |##", at(3, 1), "a "},
		{2, 4, "\x1b[?47h" + rows + "\n", "b |c |d |  ", at(3, 1), ""},
		{2, 4, "\x1b[?47h" + rows + "\n\x1b[?47l\n", "  |  |  |  ", at(3, 1), "  "},
		{2, 4, "\x1b[?1049h" + rows + "\x1b[2S", "c |d |  |  ", at(3, 1), ""},
		{1, 1, "a\n", " ", at(0, 0), "a"},
		{1, 3, "\x1b[1;2ra\nb\nc", "b|c| ", pending(1, 0), "a"},
	})
}

// P13.1: reverse line feeds inside of the scroll region, at its beginning, and outside of it.
func TestReverseLineFeeds(t *testing.T) {
	const rows = "a\r\nb\r\nc\r\nd"
	play(t, []scene{
		{2, 4, rows + "\x1bM", "a |b |c |d ", at(2, 1), ""},
		{2, 4, rows + "\x1b[1;2H\x1bM", "  |a |b |c ", at(0, 1), ""},
		{2, 4, rows + "\x1b[1;1Hxy\x1bM", "  |xy|b |c ", at(0, 1), ""},
		{2, 4, rows + "\x1b[44m\x1b[1;2H\x1bM", "##|a |b |c ", at(0, 1), ""},
		{2, 4, rows + "\x1b[2;3r\x1b[2;1H\x1bM", "a |  |b |d ", at(1, 0), ""},
		{2, 4, rows + "\x1b[2;3r\x1b[1;1H\x1bM", "a |b |c |d ", at(0, 0), ""},
		{2, 4, rows + "\x1b[2;3r\x1b[4;1H\x1bM", "a |b |c |d ", at(2, 0), ""},
		{2, 4, rows + "\x1b[2;3r\x1b[3;1H\x1bM\x1bM\x1bM", "a |  |  |d ", at(1, 0), ""},
		{1, 1, "a\x1bM", " ", at(0, 0), ""},
	})
}

// P13.1, P13.5: the scrollback has at most 500 rows, and the newest ones.
func TestFullScrollback(t *testing.T) {
	x := written(2, 2, numbered(1, 501))
	if len(x.Back) != 499 || picture(x.Back[:1]) != "bb" {
		t.Fatalf("after 499 rows: %d, the first one is %q", len(x.Back), picture(x.Back[:1]))
	}
	for n := 502; n <= 530; n++ {
		x = Write(x, "\r\n"+numbered(n, n))
		first := strings.TrimRight(picture(x.Back[:1]), " ")
		last := strings.TrimRight(picture(x.Back[len(x.Back)-1:]), " ")
		if len(x.Back) != 500 || first != numbered(n-501, n-501) || last != numbered(n-2, n-2) {
			t.Fatalf("row %d: %d rows, from %q to %q", n, len(x.Back), first, last)
		}
	}
	if got := Write(x, "\x1b[?1049h"+numbered(1, 9)); !sameRows(got.Back, x.Back) {
		t.Errorf("the alternate screen changes the scrollback")
	}
	if got := Write(x, "\x1b[3J"); len(got.Back) != 0 || !sameGrid(got.Grid, x.Grid) || got.Cursor != x.Cursor {
		t.Errorf("the scrollback still has %d rows", len(got.Back))
	}
	if got := Write(x, "\x1b[2S"); len(got.Back) != 500 || !sameRows(got.Back[:498], x.Back[2:]) || !sameRows(got.Back[498:], x.Grid.Rows) {
		t.Errorf("scrolling by two rows keeps others")
	}
}

// P13.1: the escape sequences that are not line feeds.
func TestEscapes(t *testing.T) {
	x := written(9, 2, "\x1b[1;4H\x1bH\x1b[1;9H\x1bH")
	if want := []bool{true, false, false, true, false, false, false, false, true}; !slices.Equal(x.Tabs, want) {
		t.Errorf("the tab stops are %v, want %v", x.Tabs, want)
	}
	play(t, []scene{
		{9, 1, "\x1b[4G\x1bH\r\t", "         ", at(0, 3), ""},
		{3, 2, "abc\x1bE", "abc|   ", at(1, 0), ""},
		{3, 2, "ab\x1bD", "ab |   ", at(1, 2), ""},
		{3, 2, "abc\x1bD", "abc|   ", at(1, 2), ""},
	})
	for _, c := range []struct {
		stream string
		sets   string
	}{
		{"", "BB"}, {"\x1b(0", "0B"}, {"\x1b)0", "B0"}, {"\x1b(0\x1b)0", "00"}, {"\x1b(0\x1b(B", "BB"}, {"\x1b)0\x1b)B", "BB"}, {"\x1b(0\x1b)0\x1b)B", "0B"}, {"\x1b(0\x1b(A", "0B"}, {"\x1b*0\x1b((0\x1b0\x1bB", "BB"},
	} {
		if got := written(2, 1, c.stream).Modes.Sets; string(got[:]) != c.sets {
			t.Errorf("%q: the character sets are %q, want %q", c.stream, got, c.sets)
		}
	}
}

// P13.1: the sequence that resets everything but the parser and the reply.
func TestReset(t *testing.T) {
	x := written(4, 3, "\x1b]0;title\a\x1b[1;31m\x1b[2;3r\x1b[4;20h\x1b[?6;7;25l\x1b[?1;2048h\x1b(0\x0e\x1b[3gab\x1b7\n\n\n\n\x1b[1;3r\x1b[3;1H\n\x1b[5n")
	if x.Title == "" || len(x.Back) == 0 {
		t.Fatalf("%v", x)
	}
	for _, alternate := range []string{"", "\x1b[?47h", "\x1b[?1049h"} {
		before := Write(x, alternate+"\x1b[6n")
		want := chapterNew(4, 3)
		want.Reply = before.Reply
		if d := difference(Write(before, "\x1bc"), want); d != "" {
			t.Error(d)
		}
		before.Parser = api.Parser{State: 2, Buffer: "1"}
		want.Parser = before.Parser
		if d := difference(Do(before, api.Event{Kind: api.EscapeEvent, Code: 'c'}), want); d != "" {
			t.Error(d)
		}
	}
	if got := written(4, 3, "ab\x1bcx\x1b"); picture(got.Grid.Rows) != "x   |    |    " || got.Parser != (api.Parser{State: 1}) {
		t.Errorf("%v", got)
	}
}

// P13.1: the titles that commands set.
func TestTitles(t *testing.T) {
	for _, c := range []struct{ text, want string }{
		{"0;title", "title"},
		{"2;title", "title"},
		{"0;", ""},
		{"2;", ""},
		{"0;0;x", "0;x"},
		{"2;;x", ";x"},
		{"0; x", " x"},
		{"0;\u6F22\u0301", "\u6F22\u0301"},
		{"2;\x7f\u0085", "\x7f\u0085"},
		{"0;\xff", "\ufffd"},
		{"0;\x80\x80x", "\ufffd\ufffdx"},
		{"0;a\xe2\x82x", "a\ufffdx"},
		{"0;a\xe2\x82", "a\ufffd"},
		{"2;\xf0\x9f\x98", "\ufffd"},
		{"2;\xed\xa0\x80", "\ufffd\ufffd\ufffd"},
		{"", "old"},
		{"0", "old"},
		{"2", "old"},
		{"1;x", "old"},
		{"3;x", "old"},
		{"00;x", "old"},
		{"10;x", "old"},
		{" 0;x", "old"},
		{"x", "old"},
		{";0;x", "old"},
		{"0:x", "old"},
	} {
		for _, end := range []string{"\a", "\x1b\\"} {
			before := written(2, 1, "\x1b]0;old\aab")
			got := Write(before, "\x1b]"+c.text+end)
			want := before
			want.Title = c.want
			if d := difference(got, want); d != "" || Check(got) != api.OK {
				t.Errorf("%q: %s, error %d", c.text, d, Check(got))
			}
		}
	}
	if got := written(2, 1, "\x1b]0;"+strings.Repeat("x", 300)+"\a"); got.Title != strings.Repeat("x", 254) {
		t.Errorf("the title is %q", got.Title)
	}
}

// P13.1: terminals that violate each condition of a proper one.
func TestCheck(t *testing.T) {
	proper := written(4, 3, "\x1b[44mab漢\x1b7\r\n\n\n\x1b[2;3r\x1b[1;4Hx\x1b]0;title\a")
	if Check(proper) != api.OK {
		t.Fatalf("%v is not proper", proper)
	}
	grid := func(g api.Grid, row, col int, c api.Cell) api.Grid {
		g = copied(api.Terminal{Grid: g}).Grid
		g.Rows[row][col] = c
		return g
	}
	half := api.Cell{Attr: plain}
	for name, change := range map[string]func(x *api.Terminal){
		"the zero terminal":               func(x *api.Terminal) { *x = api.Terminal{} },
		"a grid without rows":             func(x *api.Terminal) { x.Grid.Rows = nil },
		"a grid with a row less":          func(x *api.Terminal) { x.Grid.Rows = x.Grid.Rows[:2] },
		"a grid with half a pair":         func(x *api.Terminal) { x.Grid = grid(x.Grid, 2, 0, half) },
		"a grid with a bad text":          func(x *api.Terminal) { x.Grid = grid(x.Grid, 0, 0, api.Cell{Text: "\xff", Width: 1}) },
		"the other grid without rows":     func(x *api.Terminal) { x.Other = api.Grid{Width: 4, Height: 3} },
		"the other grid is zero":          func(x *api.Terminal) { x.Other = api.Grid{} },
		"the other grid with half a pair": func(x *api.Terminal) { x.Other = grid(x.Other, 2, 3, half) },
		"the other grid is wider":         func(x *api.Terminal) { x.Other = blankGrid(5, 3) },
		"the other grid is narrower":      func(x *api.Terminal) { x.Other = blankGrid(3, 3) },
		"the other grid is higher":        func(x *api.Terminal) { x.Other = blankGrid(4, 4) },
		"the other grid is lower":         func(x *api.Terminal) { x.Other = blankGrid(4, 2) },
		"both grids are too wide": func(x *api.Terminal) {
			x.Grid, x.Other, x.Tabs = blankGrid(133, 3), blankGrid(133, 3), make([]bool, 133)
		},
		"both grids are too high":  func(x *api.Terminal) { x.Grid, x.Other = blankGrid(4, 61), blankGrid(4, 61) },
		"row -1":                   func(x *api.Terminal) { x.Cursor.Row = -1 },
		"row 3":                    func(x *api.Terminal) { x.Cursor.Row = 3 },
		"a huge row":               func(x *api.Terminal) { x.Cursor.Row = math.MaxInt },
		"column -1":                func(x *api.Terminal) { x.Cursor = at(0, -1) },
		"column 4":                 func(x *api.Terminal) { x.Cursor = at(0, 4) },
		"column 4 with Pending":    func(x *api.Terminal) { x.Cursor = pending(0, 4) },
		"column 2 with Pending":    func(x *api.Terminal) { x.Cursor = pending(0, 2) },
		"column 0 with Pending":    func(x *api.Terminal) { x.Cursor = pending(0, 0) },
		"saved row -1":             func(x *api.Terminal) { x.Saved.Cursor.Row = -1 },
		"saved row 3":              func(x *api.Terminal) { x.Saved.Cursor.Row = 3 },
		"saved column -1":          func(x *api.Terminal) { x.Saved.Cursor = at(0, -1) },
		"saved column 4":           func(x *api.Terminal) { x.Saved.Cursor = at(0, 4) },
		"saved column 2, Pending":  func(x *api.Terminal) { x.Saved.Cursor = pending(0, 2) },
		"foreground -2":            func(x *api.Terminal) { x.Attr.Fore = -2 },
		"foreground 256":           func(x *api.Terminal) { x.Attr.Fore = 256 },
		"background -2":            func(x *api.Terminal) { x.Attr.Back = -2 },
		"background 256":           func(x *api.Terminal) { x.Attr.Back = 256 },
		"flags -1":                 func(x *api.Terminal) { x.Attr.Flags = -1 },
		"flags 256":                func(x *api.Terminal) { x.Attr.Flags = 256 },
		"saved foreground 256":     func(x *api.Terminal) { x.Saved.Attr.Fore = 256 },
		"saved background -2":      func(x *api.Terminal) { x.Saved.Attr.Back = -2 },
		"saved flags 256":          func(x *api.Terminal) { x.Saved.Attr.Flags = 256 },
		"the first set is A":       func(x *api.Terminal) { x.Modes.Sets[0] = 'A' },
		"the first set is absent":  func(x *api.Terminal) { x.Modes.Sets[0] = 0 },
		"the second set is 1":      func(x *api.Terminal) { x.Modes.Sets[1] = '1' },
		"the first saved set is A": func(x *api.Terminal) { x.Saved.Sets[0] = 'A' },
		"no second saved set":      func(x *api.Terminal) { x.Saved.Sets[1] = 0 },
		"shift -1":                 func(x *api.Terminal) { x.Modes.Shift = -1 },
		"shift 2":                  func(x *api.Terminal) { x.Modes.Shift = 2 },
		"saved shift -1":           func(x *api.Terminal) { x.Saved.Shift = -1 },
		"saved shift 2":            func(x *api.Terminal) { x.Saved.Shift = 2 },
		"top -1":                   func(x *api.Terminal) { x.Top = -1 },
		"top 3":                    func(x *api.Terminal) { x.Top = 3 },
		"an empty region":          func(x *api.Terminal) { x.Top, x.Bottom = 2, 2 },
		"bottom 0":                 func(x *api.Terminal) { x.Top, x.Bottom = 0, 0 },
		"bottom 4":                 func(x *api.Terminal) { x.Bottom = 4 },
		"a huge bottom":            func(x *api.Terminal) { x.Bottom = math.MaxInt },
		"no tab stops":             func(x *api.Terminal) { x.Tabs = nil },
		"a column of tabs less":    func(x *api.Terminal) { x.Tabs = x.Tabs[:3] },
		"a column of tabs more":    func(x *api.Terminal) { x.Tabs = make([]bool, 5) },
		"501 rows of scrollback":   func(x *api.Terminal) { x.Back = slices.Repeat(x.Back[:1], 501) },
		"an empty row":             func(x *api.Terminal) { x.Back = [][]api.Cell{nil} },
		"a long row":               func(x *api.Terminal) { x.Back = [][]api.Cell{blankRow(133, -1)} },
		"half a pair at last":      func(x *api.Terminal) { x.Back = [][]api.Cell{x.Back[0], {half}} },
		"a bad text at first":      func(x *api.Terminal) { x.Back = [][]api.Cell{{{Width: 1}}, x.Back[0]} },
		"a title that is no UTF-8": func(x *api.Terminal) { x.Title = "a\xff" },
		"a title that is cut":      func(x *api.Terminal) { x.Title = "\xe2\x82" },
	} {
		bad := proper
		change(&bad)
		if e := Check(bad); e != api.ErrArgument || chapterCheck(bad) != api.ErrArgument {
			t.Errorf("%s: error %d, and by the chapter %d", name, e, chapterCheck(bad))
		}
	}
}

// P13.1: terminals at the limits of the conditions, which are proper.
func TestCheckOfProper(t *testing.T) {
	proper := written(4, 3, "\x1b[44mab漢\x1b7\r\n\n\n\x1b[2;3r\x1b[1;4Hx\x1b]0;title\a")
	for name, change := range map[string]func(x *api.Terminal){
		"the last position":         func(x *api.Terminal) { x.Cursor = pending(2, 3) },
		"the last position, no":     func(x *api.Terminal) { x.Cursor = at(2, 3) },
		"the saved last position":   func(x *api.Terminal) { x.Saved.Cursor = pending(2, 3) },
		"Pending without Wrap":      func(x *api.Terminal) { x.Cursor, x.Modes.Wrap = pending(0, 3), false },
		"the cursor out of region":  func(x *api.Terminal) { x.Cursor, x.Modes.Origin = at(0, 0), true },
		"the greatest rendition":    func(x *api.Terminal) { x.Attr, x.Saved.Attr = whole, whole },
		"the least rendition":       func(x *api.Terminal) { x.Attr, x.Saved.Attr = plain, plain },
		"graphics":                  func(x *api.Terminal) { x.Modes.Sets, x.Saved.Sets = [2]byte{'0', '0'}, [2]byte{'B', '0'} },
		"shifts":                    func(x *api.Terminal) { x.Modes.Shift, x.Saved.Shift = 1, 1 },
		"a region of the first row": func(x *api.Terminal) { x.Top, x.Bottom = 0, 1 },
		"a region of the last row":  func(x *api.Terminal) { x.Top, x.Bottom = 2, 3 },
		"the whole region":          func(x *api.Terminal) { x.Top, x.Bottom = 0, 3 },
		"no scrollback":             func(x *api.Terminal) { x.Back = nil },
		"500 rows of scrollback":    func(x *api.Terminal) { x.Back = slices.Repeat(x.Back[:1], 500) },
		"rows of other widths":      func(x *api.Terminal) { x.Back = [][]api.Cell{blankRow(132, 9), blankRow(1, 300)} },
		"no title":                  func(x *api.Terminal) { x.Title = "" },
		"a long reply":              func(x *api.Terminal) { x.Reply = strings.Repeat("\xff", 2000) },
		"an improper parser":        func(x *api.Terminal) { x.Parser = api.Parser{State: 9, Buffer: "x"} },
		"any renditions of cells": func(x *api.Terminal) {
			x.Grid = blankGrid(4, 3)
			x.Grid.Rows[1] = blankRow(4, 1000)
		},
	} {
		good := proper
		change(&good)
		if e := Check(good); e != api.OK || chapterCheck(good) != api.OK {
			t.Errorf("%s: error %d, and by the chapter %d", name, e, chapterCheck(good))
		}
	}
}

// P13.1: resizing to smaller and larger sizes.
func TestResize(t *testing.T) {
	x := written(5, 4, "\x1b]0;title\a\x1b[44ma\r\nabc漢\r\n漢字x\r\nd\x1b[3;4H\x1bH\x1b[2;4r\x1b[4;5H\x1b7\x1b[3;5H\x1b[?1049hwx\x1b[5n")
	main := Write(x, "\x1b[?1049l")
	for _, c := range []struct {
		width, height int
		want          string
		cursor, saved api.Cursor
		tabs          string
	}{
		{5, 4, "a    |abc漢|漢字x|d    ", at(2, 4), at(2, 4), "x--x-"},
		{4, 3, "a   |abc#|漢字", at(2, 3), at(2, 3), "x--x"},
		{3, 2, "a  |abc", at(1, 2), at(1, 2), "x--"},
		{1, 1, "a", at(0, 0), at(0, 0), "x"},
		{1, 4, "a|a|#|d", at(2, 0), at(2, 0), "x"},
		{6, 4, "a     |abc漢 |漢字x |d     ", at(2, 4), at(2, 4), "x--x--"},
		{9, 5, "a        |abc漢    |漢字x    |d        |         ", at(2, 4), at(2, 4), "x--x----x"},
		{17, 1, "a                ", at(0, 4), at(0, 4), "x--x----x-------x"},
	} {
		got, e := Resize(main, c.width, c.height)
		tabs := ""
		for _, isStop := range got.Tabs {
			tabs += map[bool]string{true: "x", false: "-"}[isStop]
		}
		if p := picture(got.Grid.Rows); e != api.OK || p != c.want || got.Cursor != c.cursor || got.Saved.Cursor != c.saved || tabs != c.tabs {
			t.Errorf("to %d by %d: %q, cursors %v and %v, tabs %q, error %d; want %q, %v and %v, %q", c.width, c.height, p, got.Cursor, got.Saved.Cursor, tabs, e, c.want, c.cursor, c.saved, c.tabs)
		}
		if got.Top != 0 || got.Bottom != c.height || got.Title != "title" || got.Reply != "\x1b[0n" || got.Attr != main.Attr {
			t.Errorf("to %d by %d: %v", c.width, c.height, got)
		}
		if d := difference(got, chapterResize(main, c.width, c.height)); d != "" || Check(got) != api.OK {
			t.Errorf("to %d by %d: %s, error %d", c.width, c.height, d, Check(got))
		}
	}
}

// P13.1: a resizing drops Pending of both cursors, also where the last column remains.
func TestResizePending(t *testing.T) {
	x := written(3, 2, "abcdef\x1b7")
	if x.Cursor != pending(1, 2) || x.Saved.Cursor != pending(1, 2) {
		t.Fatalf("the cursors are %v and %v", x.Cursor, x.Saved.Cursor)
	}
	for _, c := range []struct {
		width, height int
		want          api.Cursor
	}{{3, 2, at(1, 2)}, {4, 2, at(1, 2)}, {2, 2, at(1, 1)}, {3, 1, at(0, 2)}, {1, 1, at(0, 0)}, {132, 60, at(1, 2)}} {
		if got, e := Resize(x, c.width, c.height); e != api.OK || got.Cursor != c.want || got.Saved.Cursor != c.want {
			t.Errorf("to %d by %d: the cursors are %v and %v, want %v, error %d", c.width, c.height, got.Cursor, got.Saved.Cursor, c.want, e)
		}
	}
}

// P13.1: both grids are resized, and the scrollback keeps its rows.
func TestResizeOfBothGrids(t *testing.T) {
	x := written(4, 2, "ab\r\ncd\r\nef\x1b[?1049hwxyz")
	got, e := Resize(x, 2, 3)
	if e != api.OK || picture(got.Grid.Rows) != "  |yz|  " || picture(got.Other.Rows) != "cd|ef|  " || picture(got.Back) != "ab  " {
		t.Errorf("%q and %q, back %q, error %d", picture(got.Grid.Rows), picture(got.Other.Rows), picture(got.Back), e)
	}
	got = Write(got, "\x1b[?1049l")
	if picture(got.Grid.Rows) != "cd|ef|  " || got.Cursor != at(1, 1) {
		t.Errorf("%q, cursor %v", picture(got.Grid.Rows), got.Cursor)
	}
}

// P13.1: resizing to sizes that are not valid.
func TestResizeToInvalidSizes(t *testing.T) {
	x := written(4, 2, "ab")
	for _, size := range [][2]int{{0, 1}, {1, 0}, {-1, 1}, {1, -1}, {133, 1}, {1, 61}, {0, 0}, {math.MaxInt, 1}, {1, math.MaxInt}, {math.MinInt, 1}, {1, math.MinInt}, {1 << 32, 1}, {1<<32 + 4, 1<<32 + 2}} {
		if got, e := Resize(x, size[0], size[1]); e != api.ErrRange || difference(got, api.Terminal{}) != "" {
			t.Errorf("to %v: %v, error %d", size, got, e)
		}
	}
	for _, size := range [][2]int{{132, 60}, {1, 60}, {132, 1}, {1, 1}} {
		if got, e := Resize(x, size[0], size[1]); e != api.OK || difference(got, chapterResize(x, size[0], size[1])) != "" || Check(got) != api.OK {
			t.Errorf("to %v: %v, error %d", size, got, e)
		}
	}
}

// P13.1: replies are taken once.
func TestReplies(t *testing.T) {
	for _, reply := range []string{"", "\x1b[0n", "\x1b[0n\x1b[2;2R", strings.Repeat("x", 1500)} {
		x := written(3, 2, "abc\x1b[")
		x.Reply = reply
		got, s := Replies(x)
		want := x
		want.Reply = ""
		if d := difference(got, want); s != reply || d != "" {
			t.Errorf("%q: the reply is %q, %s", reply, s, d)
		}
		if _, s := Replies(got); s != "" {
			t.Errorf("%q: the reply is then %q", reply, s)
		}
	}
}

// P13.1: the terminal keeps the parser between chunks, and treats one that is not proper like the zero parser.
func TestWriteParser(t *testing.T) {
	x := written(4, 1, "a\x1b[3")
	if x.Parser != (api.Parser{State: 2, Buffer: "3"}) {
		t.Fatalf("the parser is %v", x.Parser)
	}
	x = Write(x, "Gb\xe6\xbc")
	if picture(x.Grid.Rows) != "a b " || x.Parser != (api.Parser{Pending: "\xe6\xbc"}) {
		t.Fatalf("%q, the parser is %v", picture(x.Grid.Rows), x.Parser)
	}
	x.Parser = api.Parser{State: 7, Buffer: "9"}
	x = Write(x, "c")
	if picture(x.Grid.Rows) != "a bc" || x.Parser != (api.Parser{}) {
		t.Fatalf("%q, the parser is %v", picture(x.Grid.Rows), x.Parser)
	}
	if got := cellrow.Text(Write(x, "").Grid.Rows[0]); got != "a bc" {
		t.Errorf("after an empty chunk: %q", got)
	}
}
