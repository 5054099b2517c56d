package terminal

import (
	"fmt"
	"slices"
	"strings"
	"testing"

	"narrator/api"
)

// letters fills a terminal of 6 by 4.
const letters = "abcdefghijklmnopqrstuvwx"

// A sequenceCase is a control sequence, and what it does to letters with the cursor in row 2 at column 3.
type sequenceCase struct {
	body   string
	want   string
	cursor api.Cursor
	back   string
}

// playSequences compares the program with sequences.
func playSequences(t *testing.T, cases []sequenceCase) {
	t.Helper()
	scenes := []scene{}
	for _, c := range cases {
		scenes = append(scenes, scene{6, 4, letters + "\x1b[3;4H\x1b[" + c.body, c.want, c.cursor, c.back})
	}
	play(t, scenes)
}

// P13.1: the sequences that move the cursor by a number, with every number that makes a difference.
func TestMoves(t *testing.T) {
	const same = "abcdef|ghijkl|mnopqr|stuvwx"
	for _, c := range []struct {
		codes string
		wants map[string]api.Cursor
	}{
		{"A", map[string]api.Cursor{"": at(1, 3), "0": at(1, 3), "1": at(1, 3), "2": at(0, 3), "3": at(0, 3), "9999": at(0, 3), ";2": at(1, 3)}},
		{"Be", map[string]api.Cursor{"": at(3, 3), "0": at(3, 3), "1": at(3, 3), "2": at(3, 3), "9999": at(3, 3), ";2": at(3, 3)}},
		{"Ca", map[string]api.Cursor{"": at(2, 4), "0": at(2, 4), "1": at(2, 4), "2": at(2, 5), "3": at(2, 5), "9999": at(2, 5), ";2": at(2, 4)}},
		{"D", map[string]api.Cursor{"": at(2, 2), "0": at(2, 2), "1": at(2, 2), "2": at(2, 1), "3": at(2, 0), "4": at(2, 0), "9999": at(2, 0)}},
		{"E", map[string]api.Cursor{"": at(3, 0), "0": at(3, 0), "1": at(3, 0), "2": at(3, 0), "9999": at(3, 0)}},
		{"F", map[string]api.Cursor{"": at(1, 0), "0": at(1, 0), "1": at(1, 0), "2": at(0, 0), "3": at(0, 0), "9999": at(0, 0)}},
		{"G`", map[string]api.Cursor{"": at(2, 0), "0": at(2, 0), "1": at(2, 0), "2": at(2, 1), "6": at(2, 5), "7": at(2, 5), "9999": at(2, 5), ";2": at(2, 0)}},
		{"Hf", map[string]api.Cursor{
			"": at(0, 0), "0": at(0, 0), ";": at(0, 0), "0;0": at(0, 0), "1;1": at(0, 0), "2": at(1, 0), "2;": at(1, 0), ";3": at(0, 2),
			"2;3": at(1, 2), "4;6": at(3, 5), "5;7": at(3, 5), "9999;9999": at(3, 5), "4;1": at(3, 0), "1;6": at(0, 5), "2;3;4": at(1, 2),
		}},
		{"d", map[string]api.Cursor{"": at(0, 3), "0": at(0, 3), "1": at(0, 3), "2": at(1, 3), "4": at(3, 3), "5": at(3, 3), "9999": at(3, 3), "2;5": at(1, 3)}},
		{"I", map[string]api.Cursor{"": at(2, 5), "0": at(2, 5), "1": at(2, 5), "2": at(2, 5), "9999": at(2, 5)}},
		{"Z", map[string]api.Cursor{"": at(2, 0), "0": at(2, 0), "1": at(2, 0), "2": at(2, 0), "9999": at(2, 0)}},
	} {
		for _, code := range strings.Split(c.codes, "") {
			for params, want := range c.wants {
				playSequences(t, []sequenceCase{{params + code, same, want, ""}})
			}
		}
	}
}

// P13.1: the scroll region keeps the cursor that is moved by rows within it, and Origin counts from its first row.
func TestMovesInRegion(t *testing.T) {
	const same = "abcdef|ghijkl|mnopqr|stuvwx"
	for _, c := range []struct {
		stream string
		want   api.Cursor
	}{
		{"\x1b[3;2H\x1b[9A", at(1, 1)},
		{"\x1b[2;2H\x1b[9B", at(2, 1)},
		{"\x1b[2;2H\x1b[9e", at(2, 1)},
		{"\x1b[2;2H\x1b[9E", at(2, 0)},
		{"\x1b[3;2H\x1b[9F", at(1, 0)},
		{"\x1b[4;2H\x1b[A", at(2, 1)},
		{"\x1b[4;2H\x1b[9A", at(0, 1)},
		{"\x1b[1;2H\x1b[9B", at(3, 1)},
		{"\x1b[?6h\x1b[1;3H", at(1, 2)},
		{"\x1b[?6h\x1b[2;3H", at(2, 2)},
		{"\x1b[?6h\x1b[3;3f", at(2, 2)},
		{"\x1b[?6h\x1b[4C\x1b[2d", at(2, 4)},
		{"\x1b[?6h\x1b[4C\x1b[9d", at(2, 4)},
		{"\x1b[?6h\x1b[9999;9999H", at(2, 5)},
		{"\x1b[?6h\x1b[?6l", at(0, 0)},
		{"\x1b[3;3H\x1b[?6l", at(0, 0)},
		{"\x1b[?6h\x1b[3;3H\x1b[?6h", at(1, 0)},
	} {
		play(t, []scene{{6, 4, letters + "\x1b[2;3r" + c.stream, same, c.want, ""}})
	}
}

// P13.1: the sequences that change cells of the current row.
func TestRowEdits(t *testing.T) {
	row := func(cells string) string { return "abcdef|ghijkl|" + cells + "|stuvwx" }
	cases := []sequenceCase{}
	for cells, bodies := range map[string]string{
		"mno pq": "@ 0@ 1@ ;2@",
		"mno  p": "2@",
		"mno   ": "3@ 4@ 9999@ 3P 4P 9999P 3X 4X 9999X K 0K ;1K",
		"mnoqr ": "P 0P 1P ;2P",
		"mnor  ": "2P",
		"mno qr": "X 0X 1X ;2X",
		"mno  r": "2X",
		"    qr": "1K",
		"      ": "2K",
		"mnopqr": "3K 4K 5K 9999K 4J 5J 9999J 3J",
	} {
		for _, body := range strings.Split(bodies, " ") {
			cases = append(cases, sequenceCase{body, row(cells), at(2, 3), ""})
		}
	}
	playSequences(t, cases)
}

// P13.1: the sequences that erase rows, or shift them.
func TestGridEdits(t *testing.T) {
	const none = "      "
	playSequences(t, []sequenceCase{
		{"J", "abcdef|ghijkl|mno   |" + none, at(2, 3), ""},
		{"0J", "abcdef|ghijkl|mno   |" + none, at(2, 3), ""},
		{"1J", none + "|" + none + "|    qr|stuvwx", at(2, 3), ""},
		{"2J", strings.Join(slices.Repeat([]string{none}, 4), "|"), at(2, 3), ""},
		{"L", "abcdef|ghijkl|" + none + "|mnopqr", at(2, 0), ""},
		{"0L", "abcdef|ghijkl|" + none + "|mnopqr", at(2, 0), ""},
		{"1L", "abcdef|ghijkl|" + none + "|mnopqr", at(2, 0), ""},
		{"2L", "abcdef|ghijkl|" + none + "|" + none, at(2, 0), ""},
		{"3L", "abcdef|ghijkl|" + none + "|" + none, at(2, 0), ""},
		{"9999L", "abcdef|ghijkl|" + none + "|" + none, at(2, 0), ""},
		{"M", "abcdef|ghijkl|stuvwx|" + none, at(2, 0), ""},
		{"0M", "abcdef|ghijkl|stuvwx|" + none, at(2, 0), ""},
		{"1M", "abcdef|ghijkl|stuvwx|" + none, at(2, 0), ""},
		{"2M", "abcdef|ghijkl|" + none + "|" + none, at(2, 0), ""},
		{"3M", "abcdef|ghijkl|" + none + "|" + none, at(2, 0), ""},
		{"9999M", "abcdef|ghijkl|" + none + "|" + none, at(2, 0), ""},
		{"S", "ghijkl|mnopqr|stuvwx|" + none, at(2, 3), "abcdef"},
		{"0S", "ghijkl|mnopqr|stuvwx|" + none, at(2, 3), "abcdef"},
		{"1S", "ghijkl|mnopqr|stuvwx|" + none, at(2, 3), "abcdef"},
		{"3S", "stuvwx|" + none + "|" + none + "|" + none, at(2, 3), "abcdef|ghijkl|mnopqr"},
		{"4S", strings.Join(slices.Repeat([]string{none}, 4), "|"), at(2, 3), "abcdef|ghijkl|mnopqr|stuvwx"},
		{"5S", strings.Join(slices.Repeat([]string{none}, 4), "|"), at(2, 3), "abcdef|ghijkl|mnopqr|stuvwx"},
		{"9999S", strings.Join(slices.Repeat([]string{none}, 4), "|"), at(2, 3), "abcdef|ghijkl|mnopqr|stuvwx"},
		{"T", none + "|abcdef|ghijkl|mnopqr", at(2, 3), ""},
		{"0T", none + "|abcdef|ghijkl|mnopqr", at(2, 3), ""},
		{"1T", none + "|abcdef|ghijkl|mnopqr", at(2, 3), ""},
		{"3T", none + "|" + none + "|" + none + "|abcdef", at(2, 3), ""},
		{"4T", strings.Join(slices.Repeat([]string{none}, 4), "|"), at(2, 3), ""},
		{"5T", strings.Join(slices.Repeat([]string{none}, 4), "|"), at(2, 3), ""},
		{"9999T", strings.Join(slices.Repeat([]string{none}, 4), "|"), at(2, 3), ""},
	})
}

// P13.1: rows are shifted in the scroll region only, and only those that S moves out of the main grid's top are kept.
func TestGridEditsInRegion(t *testing.T) {
	const rows = "a\r\nb\r\nc\r\nd"
	play(t, []scene{
		{2, 4, rows + "\x1b[2;3r\x1b[2;2H\x1b[L", "a |  |b |d ", at(1, 0), ""},
		{2, 4, rows + "\x1b[2;3r\x1b[3;2H\x1b[L", "a |b |  |d ", at(2, 0), ""},
		{2, 4, rows + "\x1b[2;3r\x1b[2;2H\x1b[9L", "a |  |  |d ", at(1, 0), ""},
		{2, 4, rows + "\x1b[2;3r\x1b[2;2H\x1b[M", "a |c |  |d ", at(1, 0), ""},
		{2, 4, rows + "\x1b[2;3r\x1b[2;2H\x1b[9M", "a |  |  |d ", at(1, 0), ""},
		{2, 4, rows + "\x1b[2;3r\x1b[1;2H\x1b[L", "a |b |c |d ", at(0, 1), ""},
		{2, 4, rows + "\x1b[2;3r\x1b[1;2H\x1b[M", "a |b |c |d ", at(0, 1), ""},
		{2, 4, rows + "\x1b[2;3r\x1b[4;2H\x1b[L", "a |b |c |d ", at(3, 1), ""},
		{2, 4, rows + "\x1b[2;3r\x1b[4;2H\x1b[M", "a |b |c |d ", at(3, 1), ""},
		{2, 4, rows + "\x1b[1;1Hxy\x1b[M", "b |c |d |  ", at(0, 0), ""},
		{2, 4, rows + "\x1b[1;3r\x1b[M", "b |c |  |d ", at(0, 0), ""},
		{2, 4, rows + "\x1b[1;3r\x1b[4;2H\x1b[2S", "c |  |  |d ", at(3, 1), "a |b "},
		{2, 4, rows + "\x1b[1;3r\x1b[4;2H\x1b[2T", "  |  |a |d ", at(3, 1), ""},
		{2, 4, rows + "\x1b[2;3r\x1b[1;2H\x1b[S", "a |c |  |d ", at(0, 1), ""},
		{2, 4, rows + "\x1b[2;3r\x1b[1;2H\x1b[T", "a |  |b |d ", at(0, 1), ""},
		{2, 4, rows + "\x1b[2;4r\x1b[9S", "a |  |  |  ", at(0, 0), ""},
		{2, 4, "\x1b[?1047h" + rows + "\x1b[2S", "c |d |  |  ", at(3, 1), ""},
		{2, 4, rows + "\x1b[44m\x1b[S\x1b[45m\x1b[T", "##|b |c |d ", at(3, 1), "a "},
		{2, 4, rows + "\x1b[44m\x1b[2;2H\x1b[L", "a |##|b |c ", at(1, 0), ""},
		{1, 1, "a\x1b[L", " ", at(0, 0), ""},
		{1, 1, "a\x1b[M", " ", at(0, 0), ""},
		{1, 1, "a\x1b[S", " ", pending(0, 0), "a"},
	})
}

// P13.1: blank cells have the background of the rendition, and halves of pairs that are cut keep their own.
func TestEditedCells(t *testing.T) {
	play(t, []scene{
		{5, 1, "abcde\x1b[44m\x1b[2G\x1b[2@", "a##bc", at(0, 1), ""},
		{5, 1, "abcde\x1b[44m\x1b[2G\x1b[2P", "ade##", at(0, 1), ""},
		{5, 1, "abcde\x1b[44m\x1b[2G\x1b[2X", "a##de", at(0, 1), ""},
		{5, 1, "abcde\x1b[44m\x1b[3G\x1b[K", "ab###", at(0, 2), ""},
		{5, 1, "abcde\x1b[44m\x1b[3G\x1b[1K", "###de", at(0, 2), ""},
		{5, 1, "abcde\x1b[44m\x1b[2K", "#####", at(0, 4), ""},
		{2, 3, "abcdef\x1b[44m\x1b[2;2H\x1b[J", "ab|c#|##", at(1, 1), ""},
		{2, 3, "abcdef\x1b[44m\x1b[2;1H\x1b[1J", "##|#d|ef", at(1, 0), ""},
		{2, 3, "abcdef\x1b[44m\x1b[2J", "##|##|##", at(2, 1), ""},
		{2, 1, "ab\x1b[44;7;1m\x1b[2J", "##", at(0, 1), ""},
		{5, 1, "a漢bc\x1b[44m\x1b[3G\x1b[@", "a # b", at(0, 2), ""},
		{5, 1, "a漢bc\x1b[44m\x1b[3G\x1b[P", "a bc#", at(0, 2), ""},
		{5, 1, "a漢bc\x1b[44m\x1b[3G\x1b[X", "a #bc", at(0, 2), ""},
		{5, 1, "a漢bc\x1b[44m\x1b[2G\x1b[X", "a# bc", at(0, 1), ""},
		{5, 1, "a漢bc\x1b[44m\x1b[2G\x1b[1K", "## bc", at(0, 1), ""},
		{5, 1, "a漢bc\x1b[44m\x1b[3G\x1b[K", "a ###", at(0, 2), ""},
		{5, 1, "\x1b[44ma漢bc\x1b[0m\x1b[3G\x1b[K", "a#   ", at(0, 2), ""},
	})
	x := written(2, 1, "ab\x1b[31;44;7;1m\x1b[2J")
	if want := blankRow(2, 4); !slices.Equal(x.Grid.Rows[0], want) {
		t.Errorf("the cells are %v, want %v", x.Grid.Rows[0], want)
	}
}

// P13.1: J with 3 drops the scrollback and nothing else.
func TestDroppingBack(t *testing.T) {
	before := written(3, 2, "a\r\nb\r\nc\r\ndef\x1b[44m")
	if len(before.Back) != 2 {
		t.Fatalf("the scrollback is %v", before.Back)
	}
	want := before
	want.Back = nil
	for _, body := range []string{"3J", "3;1J"} {
		if d := difference(Write(before, "\x1b["+body), want); d != "" {
			t.Errorf("%s: %s", body, d)
		}
	}
	for _, body := range []string{"J", "1J", "2J", "4J", "3K", "?3J", "3 J"} {
		if got := Write(before, "\x1b["+body); len(got.Back) != 2 {
			t.Errorf("%s: the scrollback is %v", body, got.Back)
		}
	}
}

// P13.1: which sequences make Pending false, and which do not.
func TestPending(t *testing.T) {
	for bodies, want := range map[string]bool{
		"@ P X J 1J 2J K 1K 2K A B C D E F H f d I Z L M a e r 1G 2G 2` ?6h ?6l u": false,
		"3J 4J 3K 4K 9999J 9999K S T 3G 4G 3` 9999` g 3g m 1m n 6n s 4h 7h ?7l ?25l ?1049h ?47h 2r 1;1r " +
			"?J ?K ?P ?@ ?H >A 1!A 1$X": true,
	} {
		for body := range strings.SplitSeq(bodies, " ") {
			got := written(3, 2, "abc\x1b["+body)
			if got.Cursor.Pending != want {
				t.Errorf("after %q the cursor is %v", body, got.Cursor)
			}
		}
	}
	for stream, want := range map[string]bool{
		"\b": false, "\t": false, "\n": false, "\v": false, "\f": false, "\r": false, "\x0e": true, "\x0f": true, "\a": true, "\x00": true,
		"\x1b7": true, "\x1b8": false, "\x1bD": false, "\x1bE": false, "\x1bM": false, "\x1bH": true, "\x1bc": false, "\x1b(0": true, "\x1b]0;x\a": true,
		"\x1b7\r\x1b8": true, "\x1b[s\r\x1b[u": true, "\x1b[?1049h\r\x1b[?1049l": true, "\x1b[?47h\r\x1b[?47l": false,
	} {
		got := written(3, 2, "abc"+stream)
		if got.Cursor.Pending != want {
			t.Errorf("after %q the cursor is %v", stream, got.Cursor)
		}
	}
}

// P13.1: a number of tab stops forward and back, with those of the program.
func TestTabs(t *testing.T) {
	for _, c := range []struct {
		stream string
		col    int
	}{
		{"\x1b[I", 8}, {"\x1b[0I", 8}, {"\x1b[1I", 8}, {"\x1b[2I", 16}, {"\x1b[3I", 24}, {"\x1b[4I", 29}, {"\x1b[5I", 29}, {"\x1b[9999I", 29},
		{"\x1b[30G\x1b[Z", 24}, {"\x1b[30G\x1b[0Z", 24}, {"\x1b[30G\x1b[2Z", 16}, {"\x1b[30G\x1b[4Z", 0}, {"\x1b[30G\x1b[5Z", 0}, {"\x1b[30G\x1b[9999Z", 0},
		{"\x1b[9G\x1b[Z", 0}, {"\x1b[10G\x1b[Z", 8},
		{"\x1b[5G\x1bH\r\x1b[I", 4}, {"\x1b[5G\x1bH\r\x1b[2I", 8}, {"\x1b[9G\x1b[g\r\x1b[I", 16}, {"\x1b[9G\x1b[0g\r\x1b[I", 16},
		{"\x1b[10G\x1b[g\r\x1b[I", 8}, {"\x1b[3g\x1b[I", 29}, {"\x1b[3g\x1b[20G\x1bH\x1b[9999Z\x1b[I", 19}, {"\x1b[3g\x1b[20G\x1bH\x1b[30G\x1b[2Z", 0},
		{"\x1b[9G\x1b[1g\r\x1b[I", 8}, {"\x1b[9G\x1b[2g\r\x1b[I", 8}, {"\x1b[9G\x1b[4g\r\x1b[I", 8}, {"\x1b[9G\x1b[9999g\r\x1b[I", 8}, {"\x1b[9G\x1b[?g\r\x1b[I", 8},
	} {
		got := written(30, 1, c.stream)
		if got.Cursor != at(0, c.col) || Check(got) != api.OK {
			t.Errorf("%q: the cursor is %v, want column %d", c.stream, got.Cursor, c.col)
		}
	}
	play(t, []scene{
		{4, 1, "abcd\x1b[I", "abcd", at(0, 3), ""},
		{4, 1, "abcd\x1b[Z", "abcd", at(0, 0), ""},
		{1, 1, "a\x1b[9999I", "a", at(0, 0), ""},
		{1, 1, "a\x1b[9999Z", "a", at(0, 0), ""},
	})
}

// P13.1: renditions are changed by layer 4.
func TestRenditions(t *testing.T) {
	for _, c := range []struct {
		body string
		want api.Attr
	}{
		{"m", plain}, {"0m", plain}, {"1;31m", api.Attr{Fore: 1, Back: -1, Flags: 3}}, {"44m", api.Attr{Fore: 5, Back: 4, Flags: 2}},
		{";1m", api.Attr{Fore: -1, Back: -1, Flags: 1}}, {"1;m", plain}, {"38;5;200m", api.Attr{Fore: 200, Back: -1, Flags: 2}},
		{"?1m", api.Attr{Fore: 5, Back: -1, Flags: 2}}, {">4;2m", api.Attr{Fore: 5, Back: -1, Flags: 2}}, {"1 m", api.Attr{Fore: 5, Back: -1, Flags: 2}},
	} {
		before := written(2, 1, "\x1b[2;35mab")
		want := before
		want.Attr = c.want
		if d := difference(Write(before, "\x1b["+c.body), want); d != "" {
			t.Errorf("%s: %s", c.body, d)
		}
	}
}

// P13.1: scroll regions with first rows before, at and behind the last one.
func TestRegions(t *testing.T) {
	for _, c := range []struct {
		params      string
		top, bottom int
		isSet       bool
	}{
		{"", 0, 4, true}, {"0", 0, 4, true}, {"1", 0, 4, true}, {"0;0", 0, 4, true}, {";", 0, 4, true}, {"1;4", 0, 4, true}, {"1;5", 0, 4, true}, {"1;9999", 0, 4, true},
		{"1;2", 0, 2, true}, {";2", 0, 2, true}, {"2;3", 1, 3, true}, {"3;4", 2, 4, true}, {"3", 2, 4, true}, {"3;0", 2, 4, true}, {"3;9999", 2, 4, true}, {"2;3;4", 1, 3, true},
		{"1;1", 0, 0, false}, {";1", 0, 0, false}, {"2;2", 0, 0, false}, {"3;2", 0, 0, false}, {"4;4", 0, 0, false}, {"4", 0, 0, false}, {"4;9999", 0, 0, false},
		{"5", 0, 0, false}, {"5;9", 0, 0, false}, {"9999;9999", 0, 0, false}, {"9999;1", 0, 0, false}, {"?1;2", 0, 0, false}, {">1;2", 0, 0, false}, {"1;2 ", 0, 0, false},
	} {
		for _, origin := range []string{"\x1b[?6l", "\x1b[?6h"} {
			before := written(3, 4, "\x1b[2;4r"+origin+"\x1b[2;3Habc")
			want := before
			if c.isSet {
				want.Top, want.Bottom, want.Cursor = c.top, c.bottom, at(0, 0)
			}
			if c.isSet && origin == "\x1b[?6h" {
				want.Cursor.Row = c.top
			}
			if d := difference(Write(before, "\x1b["+c.params+"r"), want); d != "" {
				t.Errorf("%q, %q: %s", c.params, origin, d)
			}
		}
	}
	for _, body := range []string{"r", "1r", "1;1r", "1;9r", "2r"} {
		if got := written(3, 1, "ab\x1b["+body); got.Top != 0 || got.Bottom != 1 || got.Cursor != at(0, 2) {
			t.Errorf("%s in one row: %v", body, got)
		}
	}
}

// P13.1: the replies to questions.
func TestReports(t *testing.T) {
	for _, c := range []struct{ stream, want string }{
		{"\x1b[5n", "\x1b[0n"},
		{"\x1b[6n", "\x1b[1;1R"},
		{"abc\x1b[6n", "\x1b[1;4R"},
		{"abcde\x1b[6n", "\x1b[1;5R"},
		{"\x1b[4;5H\x1b[6n", "\x1b[4;5R"},
		{"\x1b[6;1n", "\x1b[1;1R"},
		{"\x1b[5n\x1b[6n\x1b[5n", "\x1b[0n\x1b[1;1R\x1b[0n"},
		{"\x1b[2;4r\x1b[6n", "\x1b[1;1R"},
		{"\x1b[2;4r\x1b[3;2H\x1b[6n", "\x1b[3;2R"},
		{"\x1b[2;4r\x1b[?6h\x1b[6n", "\x1b[1;1R"},
		{"\x1b[2;4r\x1b[?6h\x1b[3;2H\x1b[6n", "\x1b[3;2R"},
		{"\x1b[2;4r\x1b[?6h\x1b[3;2H\x1b[?6l\x1b[4;2H\x1b[6n", "\x1b[4;2R"},
		{"\x1b[?6h\x1b7\x1b[3;4r\x1b8\x1b[6n", "\x1b[-1;1R"},
		{"\x1b[?6h\x1b[2;2H\x1b7\x1b[3;4r\x1b8\x1b[6n", "\x1b[0;2R"},
		{"\x1b[n", ""}, {"\x1b[0n", ""}, {"\x1b[1n", ""}, {"\x1b[4n", ""}, {"\x1b[7n", ""}, {"\x1b[9999n", ""}, {"\x1b[;5n", ""}, {"\x1b[?5n", ""}, {"\x1b[?6n", ""}, {"\x1b[>6n", ""}, {"\x1b[5 n", ""},
	} {
		before := written(5, 4, c.stream)
		if before.Reply != c.want {
			t.Errorf("%q: the reply is %q, want %q", c.stream, before.Reply, c.want)
		}
		if got := Write(before, "\x1b[5n"); got.Reply != c.want+"\x1b[0n" {
			t.Errorf("%q: the reply is then %q", c.stream, got.Reply)
		}
	}
	if got := written(132, 60, "\x1b[999;999H\x1b[6n").Reply; got != "\x1b[60;132R" {
		t.Errorf("the reply is %q", got)
	}
}

// P13.1: a reply that has no room is dropped, and a shorter one may still have room.
func TestFullReply(t *testing.T) {
	for _, c := range []struct {
		before int
		body   string
		want   string
	}{
		{995, "5n", "\x1b[0n"}, {996, "5n", "\x1b[0n"}, {997, "5n", ""}, {1000, "5n", ""}, {1001, "5n", ""}, {5000, "5n", ""},
		{993, "6n", "\x1b[1;1R"}, {994, "6n", "\x1b[1;1R"}, {995, "6n", ""}, {996, "6n", ""}, {1000, "6n", ""},
	} {
		x := written(3, 1, "")
		x.Reply = strings.Repeat("x", c.before)
		if got := Write(x, "\x1b["+c.body).Reply; got != x.Reply+c.want {
			t.Errorf("%s after %d bytes: %d bytes, want %d", c.body, c.before, len(got), c.before+len(c.want))
		}
	}
	x := written(3, 1, strings.Repeat("\x1b[6n", 500))
	if x.Reply != strings.Repeat("\x1b[1;1R", 166) {
		t.Errorf("the reply has %d bytes", len(x.Reply))
	}
	x = Write(x, "\x1b[5n\x1b[5n")
	if want := strings.Repeat("\x1b[1;1R", 166) + "\x1b[0n"; x.Reply != want {
		t.Errorf("the reply ends with %q", x.Reply[len(want)-9:])
	}
	if x, _ = Replies(x); Write(x, "\x1b[5n").Reply != "\x1b[0n" {
		t.Errorf("there is still no room")
	}
}

// P13.1: the modes that h and l set and reset, one after the other.
func TestModes(t *testing.T) {
	for _, c := range []struct {
		stream string
		change func(m *api.Modes)
	}{
		{"\x1b[4h", func(m *api.Modes) { m.Insert = true }},
		{"\x1b[4h\x1b[4l", func(m *api.Modes) {}},
		{"\x1b[20h", func(m *api.Modes) { m.NewLine = true }},
		{"\x1b[4;20h", func(m *api.Modes) { m.Insert, m.NewLine = true, true }},
		{"\x1b[4;20h\x1b[20;99;4l", func(m *api.Modes) {}},
		{"\x1b[?1h", func(m *api.Modes) { m.Application = true }},
		{"\x1b[?6h", func(m *api.Modes) { m.Origin = true }},
		{"\x1b[?7l", func(m *api.Modes) { m.Wrap = false }},
		{"\x1b[?25l", func(m *api.Modes) { m.Visible = false }},
		{"\x1b[?7;25l", func(m *api.Modes) { m.Wrap, m.Visible = false, false }},
		{"\x1b[?7;25l\x1b[?25h", func(m *api.Modes) { m.Wrap = false }},
		{"\x1b[?2048h", func(m *api.Modes) { m.Concealed = true }},
		{"\x1b[?1;6;2048h", func(m *api.Modes) { m.Application, m.Origin, m.Concealed = true, true, true }},
		{"\x1b[?1;;6;0;9999;2048h", func(m *api.Modes) { m.Application, m.Origin, m.Concealed = true, true, true }},
		{"\x1b[?47h", func(m *api.Modes) { m.Alternate = true }},
		{"\x1b[?1047h", func(m *api.Modes) { m.Alternate = true }},
		{"\x1b[?1049h", func(m *api.Modes) { m.Alternate = true }},
		{"\x1b[?47;1049;1047h", func(m *api.Modes) { m.Alternate = true }},
		{"\x1b[?47h\x1b[?1047l", func(m *api.Modes) {}},
		{"\x1b[h\x1b[l\x1b[?h\x1b[?l\x1b[0h\x1b[;l\x1b[?;h", func(m *api.Modes) {}},
		{"\x1b[1;6;7;25;47;1047;1049;2048l\x1b[1;6;47;1047;1049;2048h", func(m *api.Modes) {}},
		{"\x1b[?4;20h\x1b[>4h\x1b[<4h\x1b[=4h\x1b[>25l\x1b[=7l\x1b[<1049h", func(m *api.Modes) {}},
		{"\x1b[4 h\x1b[?7$l\x1b[?47!h", func(m *api.Modes) {}},
	} {
		want := api.Modes{Wrap: true, Visible: true, Sets: [2]byte{'B', 'B'}}
		c.change(&want)
		if got := written(3, 2, c.stream).Modes; got != want {
			t.Errorf("%q: %v, want %v", c.stream, got, want)
		}
	}
	for stream, want := range map[string]api.Cursor{
		"\x1b[?6h": at(1, 0), "\x1b[?6l": at(0, 0), "\x1b[6h": at(2, 1), "\x1b[6l": at(2, 1), "\x1b[>6h": at(2, 1), "\x1b[?6 h": at(2, 1),
		"\x1b[?25;6;7h": at(1, 0), "\x1b[?6h\x1b[?6l": at(0, 0), "\x1b[?7;25h": at(2, 1), "\x1b[?1h": at(2, 1), "\x1b[?66h": at(2, 1),
	} {
		if got := written(3, 4, "\x1b[2;3r\x1b[3;2H"+stream).Cursor; got != want {
			t.Errorf("%q: the cursor is %v, want %v", stream, got, want)
		}
	}
}

// P13.1, P13.4: what is saved is restored, and nothing else.
func TestSaving(t *testing.T) {
	const change = "\x1b[0;4m\x1b[?6l\x1b(B\x1b)B\x0f\x1b[?25l\x1b[4hzz\x1b]0;new\a\x1b[2;3r"
	for _, save := range []string{"\x1b7", "\x1b[s", "\x1b[1;2s"} {
		for _, restore := range []string{"\x1b8", "\x1b[u", "\x1b[9u"} {
			before := written(3, 3, "\x1b[?6h\x1b)0\x0e\x1b[1;31mabc")
			saved := Write(before, save)
			if want := (api.Saved{Cursor: pending(0, 2), Attr: api.Attr{Fore: 1, Back: -1, Flags: 1}, Origin: true, Sets: [2]byte{'B', '0'}, Shift: 1}); saved.Saved != want {
				t.Errorf("%q saves %v, want %v", save, saved.Saved, want)
			}
			changed := Write(saved, change)
			got := Write(changed, restore)
			want := changed
			want.Cursor, want.Attr = before.Cursor, before.Attr
			want.Modes.Origin, want.Modes.Sets, want.Modes.Shift = true, [2]byte{'B', '0'}, 1
			if d := difference(got, want); d != "" {
				t.Errorf("%q, %q: %s", save, restore, d)
			}
			if again := Write(Write(got, change), restore); again.Cursor != before.Cursor || again.Attr != before.Attr {
				t.Errorf("%q, %q twice: %v, %v", save, restore, again.Cursor, again.Attr)
			}
		}
	}
	for _, body := range []string{"?s", ">s", "?u", "1 s", "1 u", "?1;2s"} {
		before := written(3, 3, "\x1b[2;2H\x1b7\x1b[1mabc")
		if d := difference(Write(before, "\x1b["+body), before); d != "" {
			t.Errorf("%q: %s", body, d)
		}
	}
}

// P13.4: where nothing was saved before, the state of a new terminal is restored.
func TestRestoringWithoutSaving(t *testing.T) {
	for _, restore := range []string{"\x1b8", "\x1b[u"} {
		got := written(3, 3, "\x1b[?6h\x1b(0\x1b)0\x0e\x1b[1;31mabc"+restore)
		if got.Cursor != at(0, 0) || got.Attr != plain || got.Modes != (api.Modes{Wrap: true, Visible: true, Sets: [2]byte{'B', 'B'}}) {
			t.Errorf("%q: %v, %v, %v", restore, got.Cursor, got.Attr, got.Modes)
		}
	}
	if got := written(3, 3, "ab\x1b[?47h\x1b[1mc\x1b[?1049l"); got.Cursor != at(0, 0) || got.Attr != plain || got.Modes.Alternate {
		t.Errorf("%v", got)
	}
}

// P13.1, P13.4: the alternate screen, entered and left by each number, once and twice.
func TestAlternateScreen(t *testing.T) {
	play(t, []scene{
		{3, 1, "ab\x1b[?47hc", "  c", pending(0, 2), ""},
		{3, 1, "ab\x1b[?47hc\x1b[?47l", "ab ", pending(0, 2), ""},
		{3, 1, "ab\x1b[?1047hc\x1b[?1047l", "ab ", pending(0, 2), ""},
		{3, 1, "ab\x1b[?1049hc\x1b[?1049l", "ab ", at(0, 2), ""},
		{3, 1, "ab\x1b[?47hc\x1b[?47l\x1b[?47h", "  c", pending(0, 2), ""},
		{3, 1, "ab\x1b[?1047hc\x1b[?1047l\x1b[?47h", "  c", pending(0, 2), ""},
		{3, 1, "ab\x1b[?1049hc\x1b[?1049l\x1b[?47h", "  c", at(0, 2), ""},
		{3, 1, "ab\x1b[?1049hc\x1b[?1049l\x1b[?1049h", "   ", at(0, 2), ""},
		{3, 1, "ab\x1b[?47hc\x1b[?47l\x1b[?1049h", "   ", pending(0, 2), ""},
		{3, 1, "ab\x1b[44m\x1b[?1049h", "   ", at(0, 2), ""},
		{3, 1, "ab\x1b[44m\x1b[?1049h\x1b[2J\x1b[?1049l", "ab ", at(0, 2), ""},
		{3, 1, "ab\x1b[?47h\x1b[?47hc", "  c", pending(0, 2), ""},
		{3, 1, "ab\x1b[?1049h\rx\x1b[?1049hc", "xc ", at(0, 2), ""},
		{3, 1, "ab\x1b[?1049h\rx\x1b[?1049hc\x1b[?1049l", "ab ", at(0, 2), ""},
		{3, 1, "ab\x1b[?1049h\rx\x1b[?47h\x1b[?1047hc\x1b[?1049l", "ab ", at(0, 2), ""},
		{3, 1, "ab\x1b[?1049hc\x1b[?1049l\r\x1b[?1049l", "ab ", at(0, 0), ""},
		{3, 1, "ab\x1b[?47l\x1b[?1047l\x1b[?1049lc", "abc", pending(0, 2), ""},
		{3, 1, "ab\x1b7c\x1b[?1049l", "abc", pending(0, 2), ""},
		{3, 1, "ab\x1b[?1049h\r\x1b[?47lx", "xb ", at(0, 1), ""},
		{3, 1, "a\x1b7b\x1b[?47h\x1b[?1049l", "ab ", at(0, 1), ""},
		{3, 1, "ab\x1b[?47;47hc", "  c", pending(0, 2), ""},
		{3, 1, "ab\x1b[?1049;25hc\x1b[?25;1049l", "ab ", at(0, 2), ""},
		{3, 2, "ab\r\nc\x1b[?6;1049hx\x1b[?1049l", "ab |c  ", at(0, 0), ""},
		{3, 2, "ab\r\nc\x1b[?1049;6hx\x1b[?1049l", "ab |c  ", at(1, 1), ""},
	})
	x := written(3, 1, "\x1b[1;31mab\x1b[?1049h\x1b[0;44m\x1b(0\x1b[?1049l")
	if want := (api.Attr{Fore: 1, Back: -1, Flags: 1}); x.Attr != want || x.Saved.Attr != want || x.Modes.Sets != [2]byte{'B', 'B'} {
		t.Errorf("%v", x)
	}
	for _, number := range []string{"47", "1047"} {
		x := written(3, 1, "a\x1b7b\x1b[?"+number+"h")
		if x.Saved.Cursor != at(0, 1) || x.Cursor != at(0, 2) {
			t.Errorf("%s saves: %v", number, x.Saved)
		}
	}
}

// P13.1: each sequence of the table has no effect with a private marker or with intermediate bytes, except for h and l with a marker.
func TestExcludedSequences(t *testing.T) {
	before := written(6, 4, letters+"\x1b[2;4r\x1b7\x1b[3;4H\x1b[1mx\x1bH\x1b]0;x\a\r\n\n\n\n")
	for _, code := range []byte("@ABCDEFGHIJKLMPSTXZ`adefghlmnrsu") {
		for _, params := range [][]int{nil, {0}, {1}, {2}, {3}, {4}, {5}, {6}, {2, 3}, {20}} {
			for _, private := range []byte{0, '<', '=', '>', '?'} {
				for _, inter := range []string{"", " ", "$", "!", "  ", "/"} {
					if inter == "" && (private == 0 || private == '?' && (code == 'h' || code == 'l')) {
						continue
					}
					e := api.Event{Kind: api.SequenceEvent, Private: private, Params: params, Inter: inter, Code: code}
					if d := difference(Do(before, e), before); d != "" {
						t.Fatalf("%v: %s", e, d)
					}
				}
			}
		}
	}
}

// P13.1: every sequence of the table has an effect, so that the other tests mean something.
func TestEverySequenceHasAnEffect(t *testing.T) {
	before := written(6, 4, letters+"\x1b[1;3r\x1b7\x1b[2;4H\x1b[1m")
	for _, code := range "@ABCDEFGHIJKLMPSTXZ`adefghlmnrsu" {
		params := map[rune]string{'h': "4", 'l': "?7", 'n': "5", 'g': "3", 'r': "2;3"}[code]
		if d := difference(Write(before, fmt.Sprintf("\x1b[%s%c", params, code)), before); d == "" {
			t.Errorf("%c has no effect", code)
		}
	}
}
