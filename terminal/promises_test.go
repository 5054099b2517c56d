package terminal

import (
	"fmt"
	"math"
	"math/rand"
	"slices"
	"strings"
	"testing"

	"narrator/api"
	"narrator/cellrow"
	"narrator/vtparse"
)

// smallSizes are the sizes of the terminals on which much is tried.
var smallSizes = [][2]int{{1, 1}, {2, 1}, {1, 2}, {3, 1}, {1, 3}, {2, 2}, {3, 3}, {4, 2}, {5, 4}, {9, 5}}

// eachShaped calls a function with n random terminals of each small size.
func eachShaped(seed int64, n int, use func(t api.Terminal, random *rand.Rand)) {
	random := rand.New(rand.NewSource(seed))
	for _, size := range smallSizes {
		for range n {
			use(shaped(size[0], size[1], random), random)
		}
	}
}

// compareDo compares Do with the chapter, and reports a result that is not proper.
func compareDo(t *testing.T, x api.Terminal, e api.Event) {
	t.Helper()
	got := Do(x, e)
	if d := difference(got, chapterDo(x, e)); d != "" {
		t.Fatalf("%v\non %v:\n%s", e, x, d)
	}
	if chapterCheck(got) != api.OK || Check(got) != api.OK {
		t.Fatalf("%v\non %v:\n%v is not proper", e, x, got)
	}
}

// printedRunes are characters of every width, with those that the special graphics replace.
var printedRunes = []rune{' ', 'a', 'q', '_', '~', 'Z', 0xA0, 0x301, 0x36F, 0x200B, 0xFE0F, 0x2500, 0x6F22, 0x1F600, 0x1100, 0xFFFD, 0x10FFFF}

// P13.1, P13.2: characters of every width, on terminals with every kind of state.
func TestPrintEvents(t *testing.T) {
	eachShaped(1, 60, func(x api.Terminal, random *rand.Rand) {
		for _, r := range printedRunes {
			compareDo(t, x, api.Event{Kind: api.PrintEvent, Rune: r})
		}
	})
}

// P13.1, P13.2: a character at every position of small terminals, with and without Pending, Wrap and Insert.
func TestPrintingEverywhere(t *testing.T) {
	random := rand.New(rand.NewSource(2))
	for _, size := range smallSizes {
		for row := range size[1] {
			for col := range size[0] {
				for i := range 16 {
					x := shaped(size[0], size[1], random)
					x.Cursor = api.Cursor{Row: row, Col: col, Pending: i&1 != 0 && col == size[0]-1}
					x.Modes.Wrap, x.Modes.Insert, x.Attr.Flags = i&2 != 0, i&4 != 0, i&8/8*api.Conceal
					for _, r := range []rune{'a', 0x301, 0x6F22} {
						compareDo(t, x, api.Event{Kind: api.PrintEvent, Rune: r})
					}
				}
			}
		}
	}
}

// P13.1, P13.2: all control characters, and all escape sequences with up to one intermediate byte and some with two.
func TestControlAndEscapeEvents(t *testing.T) {
	inters := []string{"", "((", "()", "))", "# "}
	for b := byte(0x20); b <= 0x2F; b++ {
		inters = append(inters, string(rune(b)))
	}
	eachShaped(3, 2, func(x api.Terminal, random *rand.Rand) {
		for code := range 256 {
			compareDo(t, x, api.Event{Kind: api.ControlEvent, Code: byte(code)})
			for _, inter := range inters {
				compareDo(t, x, api.Event{Kind: api.EscapeEvent, Inter: inter, Code: byte(code)})
			}
		}
	})
	eachShaped(4, 300, func(x api.Terminal, random *rand.Rand) {
		for _, code := range []byte("\b\t\n\r") {
			compareDo(t, x, api.Event{Kind: api.ControlEvent, Code: code})
		}
		for _, code := range []byte("78DEMHc") {
			compareDo(t, x, api.Event{Kind: api.EscapeEvent, Code: code})
		}
	})
}

// parameterLists are those that are tried with each code.
func parameterLists() [][]int {
	lists := [][]int{nil, {-1, -1}, {2, 3}, {3, 2}, {-1, 2}, {2, -1}, {0, 0}, {1, 9999}, {9999, 9999}, {4, 5, 6}, {1, 1}, {5, 4}}
	for _, n := range []int{0, 1, 2, 3, 4, 5, 6, 7, 8, 9, 10, 9998, 9999} {
		lists = append(lists, []int{n})
	}
	return lists
}

// P13.1, P13.2: all control sequences, with parameters at, around and far beyond all sizes.
func TestSequenceEvents(t *testing.T) {
	lists := parameterLists()
	eachShaped(5, 8, func(x api.Terminal, random *rand.Rand) {
		for code := byte(0x40); code <= 0x7E; code++ {
			for _, params := range lists {
				compareDo(t, x, api.Event{Kind: api.SequenceEvent, Params: params, Code: code})
			}
			compareDo(t, x, api.Event{Kind: api.SequenceEvent, Private: pick(random, []byte("<=>?")), Params: pick(random, lists), Code: code})
			compareDo(t, x, api.Event{Kind: api.SequenceEvent, Inter: pick(random, []string{" ", "!", "$/"}), Params: pick(random, lists), Code: code})
		}
	})
}

// P13.1, P13.2: control sequences with some parameters, on many more terminals.
func TestMoreSequenceEvents(t *testing.T) {
	lists := parameterLists()
	eachShaped(6, 120, func(x api.Terminal, random *rand.Rand) {
		for _, code := range []byte("@ABCDEFGHIJKLMPSTXZ`adefgmnrsu") {
			for _, params := range [][]int{pick(random, lists), {random.Intn(4)}, {random.Intn(6), random.Intn(6)}} {
				compareDo(t, x, api.Event{Kind: api.SequenceEvent, Params: params, Code: code})
			}
		}
	})
}

// P13.1, P13.2: all lists of up to two of the numbers of modes and others, set and reset.
func TestModeEvents(t *testing.T) {
	numbers := []int{0, 1, 4, 6, 7, 20, 25, 47, 1047, 1049, 2048, 2, 9999, 1048}
	eachShaped(7, 4, func(x api.Terminal, random *rand.Rand) {
		for _, code := range []byte("hl") {
			for _, private := range []byte{0, '?', '>'} {
				compareDo(t, x, api.Event{Kind: api.SequenceEvent, Private: private, Code: code})
				for _, n := range numbers {
					compareDo(t, x, api.Event{Kind: api.SequenceEvent, Private: private, Params: []int{n}, Code: code})
					for _, m := range numbers {
						compareDo(t, x, api.Event{Kind: api.SequenceEvent, Private: private, Params: []int{n, -1, m}, Code: code})
					}
				}
			}
		}
	})
}

// P13.1, P13.2: commands.
func TestCommandEvents(t *testing.T) {
	eachShaped(8, 4, func(x api.Terminal, random *rand.Rand) {
		for _, text := range []string{"", "0", "0;", "2;", "1;x", "0;x", "2;\u6F22", "2;\xe6\xbc", "0;\xff\xfe", "4;0;x", "0;" + strings.Repeat("\x80", 254), strings.Repeat("0;", 128), strings.Repeat("2;", 129)} {
			compareDo(t, x, api.Event{Kind: api.CommandEvent, Text: text})
		}
	})
}

// P13.1, P13.2: resizing from all small sizes to all of them and to large ones.
func TestResizing(t *testing.T) {
	sizes := append(slices.Clone(smallSizes), [][2]int{{132, 60}, {131, 2}, {10, 59}, {4, 4}, {17, 3}}...)
	eachShaped(9, 12, func(x api.Terminal, random *rand.Rand) {
		for _, size := range sizes {
			got, e := Resize(x, size[0], size[1])
			if d := difference(got, chapterResize(x, size[0], size[1])); e != api.OK || d != "" {
				t.Fatalf("%v to %v: error %d, %s", x, size, e, d)
			}
			if chapterCheck(got) != api.OK || Check(got) != api.OK {
				t.Fatalf("%v to %v: %v is not proper", x, size, got)
			}
		}
	})
}

// chunk returns a random part of a stream. Its numbers are such that they have effects on small terminals.
func chunk(random *rand.Rand) string {
	number := func() string { return pick(random, []string{"", "0", "1", "2", "3", "4", "5", "9", "9999"}) }
	switch random.Intn(12) {
	case 0, 1, 2:
		return pick(random, []string{"a", "bcd", "q~_", "\u6F22", "\u5B57\u8A9E", "e\u0301", "\u0301\u0302", "\U0001F600", "\u2500x", "0123456789"})
	case 3, 4:
		return pick(random, []string{"\r\n", "\n", "\b", "\t", "\r", "\n\n\n", "\v", "\f", "\x0e", "\x0f", "\x18", "\x7f", "\a"})
	case 5:
		return "\x1b" + pick(random, []string{"7", "8", "D", "E", "M", "M", "H", "(0", "(B", ")0", ")B", "#8", "=", "Z"})
	case 6:
		return "\x1b[?" + pick(random, []string{"1", "6", "7", "7", "25", "47", "1047", "1049", "2048", "6;7", "1049;6", "47;1049", "3"}) + pick(random, []string{"h", "l"})
	case 7:
		return "\x1b[" + pick(random, []string{"4", "20", "4;20", ""}) + pick(random, []string{"h", "l", "l"})
	case 8:
		return "\x1b[" + pick(random, []string{"", "1", "8", "28", "44", "31;7", "0;8;42", "38;5;9", "48;2;1;2;3"}) + "m"
	case 9:
		return pick(random, []string{"\x1b]0;t\a", "\x1b]2;\u6F22\x1b\\", "\x1b]0;\xff\a", "\x1b]9;x\a", "\xff", "\xe6\xbc", "\x1b", "\x1b[", "\x1b[1", "\x1b]2;z"})
	default:
		return "\x1b[" + number() + pick(random, []string{"", ";" + number()}) + string(pick(random, []byte("@ABCDEFGHIJKLMPSTXZ`adefgnrsu")))
	}
}

// stream returns a random stream of n parts, without those that have an end that is excluded.
func stream(random *rand.Rand, n int, excluded ...string) string {
	parts := []string{}
	for len(parts) < n {
		part := chunk(random)
		if !slices.ContainsFunc(excluded, func(s string) bool { return strings.Contains(part, s) }) {
			parts = append(parts, part)
		}
	}
	return strings.Join(parts, "")
}

// P13.1, P13.2: random streams, with resizings between them.
func TestStreams(t *testing.T) {
	eachShaped(10, 250, func(x api.Terminal, random *rand.Rand) {
		for range 6 {
			s := stream(random, 12)
			got := Write(x, s)
			if d := difference(got, chapterWrite(x, s)); d != "" {
				t.Fatalf("%q\non %v:\n%s", s, x, d)
			}
			if chapterCheck(got) != api.OK || Check(got) != api.OK {
				t.Fatalf("%q\non %v:\n%v is not proper", s, x, got)
			}
			x = got
			if random.Intn(3) == 0 {
				size := pick(random, smallSizes)
				x, _ = Resize(x, size[0], size[1])
			}
		}
	})
}

// P13.1, P13.2: random streams of the largest terminals.
func TestStreamsOfLargeTerminals(t *testing.T) {
	random := rand.New(rand.NewSource(11))
	for _, size := range [][2]int{{132, 60}, {80, 24}, {132, 1}, {1, 60}} {
		x := shaped(size[0], size[1], random)
		for range 3 {
			s := stream(random, 25)
			got := Write(x, s)
			if d := difference(got, chapterWrite(x, s)); d != "" || Check(got) != api.OK {
				t.Fatalf("%q: %s, error %d", s, d, Check(got))
			}
			x = got
		}
	}
}

// P13.2: any bytes leave a terminal proper.
func TestAnyBytes(t *testing.T) {
	eachShaped(12, 60, func(x api.Terminal, random *rand.Rand) {
		for range 8 {
			bytes := make([]byte, 40)
			for i := range bytes {
				bytes[i] = byte(random.Intn(256))
				if random.Intn(3) == 0 {
					bytes[i] = pick(random, []byte("\x1b[]?;012469hlmHJKr\a\n"))
				}
			}
			s := string(bytes)
			got := Write(x, s)
			if d := difference(got, chapterWrite(x, s)); d != "" || Check(got) != api.OK {
				t.Fatalf("%q\non %v: %s, error %d", s, x, d, Check(got))
			}
			x = got
		}
	})
}

// P13.3: a stream that is cut at every byte, at every two bytes, and everywhere.
func TestChunks(t *testing.T) {
	streams := []string{
		"abc\u6F22e\u0301\x1b[2;3H\x1b[1;44mx\xe6\x1b[K\x1b]0;t\u6F22\x1b\\\x1b[?6;1049hy\x1b(0q\x1bMz\r\n\x1b[6n",
		"\xf0\x9f\x98\x80\xf0\x9f\x1b[?10\x0749l\x1b[3\x18g\x1bc\xff\n\n\n\x1b[2S\x1b]2;\xe6\xbc\a",
	}
	random := rand.New(rand.NewSource(13))
	for range 12 {
		streams = append(streams, stream(random, 10))
	}
	for _, s := range streams {
		for _, size := range [][2]int{{1, 1}, {3, 2}, {5, 4}} {
			x := shaped(size[0], size[1], random)
			want := Write(x, s)
			single := x
			for i := range len(s) {
				single = Write(single, s[i:i+1])
				first := Write(x, s[:i])
				for j := i; j < len(s); j += 1 + len(s)/8 {
					if d := difference(Write(Write(first, s[i:j]), s[j:]), want); d != "" {
						t.Fatalf("%q, %q, %q\non %v: %s", s[:i], s[i:j], s[j:], x, d)
					}
				}
			}
			if d := difference(single, want); d != "" {
				t.Fatalf("%q byte by byte\non %v: %s", s, x, d)
			}
		}
	}
}

// P13.3: executing the events of a stream is writing it.
func TestWritingIsDoing(t *testing.T) {
	eachShaped(14, 30, func(x api.Terminal, random *rand.Rand) {
		s := stream(random, 15)
		parser, events := vtparse.Feed(x.Parser, s)
		done := x
		for _, e := range events {
			done = Do(done, e)
		}
		done.Parser = parser
		if d := difference(done, Write(x, s)); d != "" {
			t.Fatalf("%q\non %v: %s", s, x, d)
		}
	})
}

// P13.4: what is saved is restored, whatever happens in between.
func TestWhatIsSavedIsRestored(t *testing.T) {
	eachShaped(15, 200, func(x api.Terminal, random *rand.Rand) {
		saved := Write(x, pick(random, []string{"\x1b7", "\x1b[s"}))
		between := stream(random, 15, "\x1b7", "s", "1049")
		// The parser may be within a sequence, which a byte 18 ends.
		got := Write(Write(saved, between), "\x18"+pick(random, []string{"\x1b8", "\x1b[u"}))
		if got.Cursor != x.Cursor || got.Attr != x.Attr || got.Modes.Origin != x.Modes.Origin || got.Modes.Sets != x.Modes.Sets || got.Modes.Shift != x.Modes.Shift {
			t.Fatalf("%q\non %v:\n%v, %v, %v", between, x, got.Cursor, got.Attr, got.Modes)
		}
	})
}

// P13.4: the main grid is not changed while the alternate one is active, nor is the scrollback made longer, and leaving it restores the state.
func TestMainGridRemains(t *testing.T) {
	eachShaped(16, 100, func(x api.Terminal, random *rand.Rand) {
		x = Write(x, "\x1b[?47l")
		for _, number := range []string{"47", "1047", "1049"} {
			between := stream(random, 20, "47", "1049", "\x1b7", "s")
			alternate := Write(Write(x, "\x1b[?"+number+"h"), between+"\x18")
			// The scrollback can be dropped by J.
			if !sameGrid(alternate.Other, x.Grid) || len(alternate.Back) > 0 && !sameRows(alternate.Back, x.Back) {
				t.Fatalf("%q\non %v:\n%v", between, x, alternate)
			}
			main := Write(alternate, "\x1b[?"+number+"l")
			if !sameGrid(main.Grid, x.Grid) || !sameRows(main.Back, alternate.Back) {
				t.Fatalf("%q\non %v:\n%v", between, x, main)
			}
			if number == "1049" && (main.Cursor != x.Cursor || main.Attr != x.Attr || main.Modes.Sets != x.Modes.Sets || main.Modes.Shift != x.Modes.Shift || main.Modes.Origin != x.Modes.Origin) {
				t.Fatalf("%q\non %v: %v", between, x, main)
			}
		}
	})
}

// P13.5: rows that are written one after the other are in the scrollback and the grid, in order.
func TestRowsAreKeptInOrder(t *testing.T) {
	for _, size := range [][2]int{{5, 1}, {5, 2}, {5, 7}, {5, 60}} {
		for _, n := range []int{1, 2, 6, 7, 8, 60, 61, 499, 500, 501, 502, 507, 508, 560, 1200} {
			parts := []string{}
			for i := range n {
				parts = append(parts, fmt.Sprintf("%5d", i))
			}
			x := written(size[0], size[1], strings.Join(parts, "\r\n"))
			rows := slices.Concat(x.Back, x.Grid.Rows[:min(n, size[1])])
			want := strings.Join(parts[max(0, n-size[1]-500):], "|")
			if picture(rows) != want {
				t.Fatalf("%d rows of %v: %q, want %q", n, size, picture(rows), want)
			}
		}
	}
}

// P13.5: whatever scrolls the main grid up, the rows that leave it at its top are kept, in order, and no others are.
func TestRowsThatLeaveAreKept(t *testing.T) {
	random := rand.New(rand.NewSource(17))
	for range 200 {
		height := 1 + random.Intn(6)
		x, _ := New(4, height)
		var want [][]api.Cell
		for i := range 40 {
			x = Write(x, fmt.Sprintf("\x1b[%d;1H%d", 1+random.Intn(height), i))
			rows, top := x.Grid.Rows, x.Top
			n := 1 + random.Intn(3)
			switch random.Intn(5) {
			case 0:
				x = Write(x, fmt.Sprintf("\x1b[%dS", n))
				n = min(n, x.Bottom-top)
			case 1:
				x = Write(x, fmt.Sprintf("\x1b[%d;1H%s", x.Bottom, strings.Repeat("\n", n)))
				n = min(n, x.Bottom-top)
			case 2:
				x = Write(x, fmt.Sprintf("\x1b[%dT\x1b[1;1H\x1bM\x1b[L\x1b[M", n))
				n = 0
			case 3:
				x = Write(x, "\x1b[?1049h\x1b[3S\n\n\n\n\n\n\n\x1b[?1049l")
				n = 0
			default:
				x = Write(x, fmt.Sprintf("\x1b[%d;%dr", 1+random.Intn(2), 1+random.Intn(height)))
				n = 0
			}
			if top > 0 {
				n = 0
			}
			want = append(want, rows[:n]...)
			// Line feeds beyond the height of the scroll region move out blank rows.
			for len(want) < len(x.Back) && top == 0 {
				want = append(want, blankRow(4, -1))
			}
			if !sameRows(x.Back, want) {
				t.Fatalf("step %d: the scrollback is %q, want %q", i, picture(x.Back), picture(want))
			}
		}
	}
}

// P13.5: the rows of a wide terminal keep their cells after a resizing, until they are dropped.
func TestKeptRowsAfterResizing(t *testing.T) {
	x := written(6, 1, "\x1b[44mab\u6F22\u0301c\nd")
	kept := x.Back[0]
	for _, width := range []int{1, 3, 6, 132} {
		got, e := Resize(x, width, 2)
		if e != api.OK || len(got.Back) != 1 || !slices.Equal(got.Back[0], kept) || cellrow.Text(kept) != "ab\u6F22\u0301c " {
			t.Errorf("to %d: %v, error %d", width, got.Back, e)
		}
		if got = Write(got, "\x1b[H\x1b[S"); len(got.Back) != 2 || !slices.Equal(got.Back[0], kept) || len(got.Back[1]) != width {
			t.Errorf("to %d: %v", width, got.Back)
		}
	}
}

// overwrite writes into all memory of a terminal.
func overwrite(x api.Terminal) {
	for _, rows := range [][][]api.Cell{x.Grid.Rows, x.Other.Rows, x.Back} {
		rows = rows[:cap(rows)]
		for i, l := range rows {
			l = l[:cap(l)]
			for col := range l {
				l[col] = api.Cell{Text: "written", Width: 9}
			}
			rows[i] = nil
		}
	}
	tabs := x.Tabs[:cap(x.Tabs)]
	for col := range tabs {
		tabs[col] = !tabs[col]
	}
}

// isShared reports whether two slices of a terminal share memory: a cell that is written into one of them is then seen in another one.
func isShared(x api.Terminal) bool {
	rows := slices.Concat(x.Grid.Rows, x.Other.Rows, x.Back)
	for i, l := range rows {
		for col := range l[:cap(l)] {
			l[:cap(l)][col] = api.Cell{Text: "row", Width: i}
		}
	}
	for i, l := range rows {
		if slices.ContainsFunc(l, func(c api.Cell) bool { return c.Width != i }) {
			return true
		}
	}
	return false
}

// P13.1, R3: no function changes its arguments, and no result shares memory with one or within itself.
func TestArguments(t *testing.T) {
	eachShaped(18, 60, func(x api.Terminal, random *rand.Rand) {
		before := copied(x)
		s := stream(random, 10)
		for name, call := range map[string]func() api.Terminal{
			"Write":   func() api.Terminal { return Write(x, s) },
			"nothing": func() api.Terminal { return Write(x, "") },
			"Do":      func() api.Terminal { return Do(x, api.Event{Kind: api.PrintEvent, Rune: 'x'}) },
			"no Do":   func() api.Terminal { return Do(x, api.Event{}) },
			"Resize":  func() api.Terminal { got, _ := Resize(x, x.Grid.Width, x.Grid.Height); return got },
			"larger":  func() api.Terminal { got, _ := Resize(x, 20, 20); return got },
			"Replies": func() api.Terminal { got, _ := Replies(x); return got },
			"Check":   func() api.Terminal { Check(x); return api.Terminal{} },
			"New":     func() api.Terminal { got, _ := New(4, 3); return got },
		} {
			got := call()
			if d := difference(x, before); d != "" {
				t.Fatalf("%s, %q: an argument was changed: %s", name, s, d)
			}
			if isShared(copied(got)) || isShared(got) {
				t.Fatalf("%s, %q: the result shares memory", name, s)
			}
			overwrite(got)
			if d := difference(x, before); d != "" {
				t.Fatalf("%s, %q: the result shares memory with an argument: %s", name, s, d)
			}
		}
	})
}

// P13.1: the parameters of an event are not changed.
func TestEventsAreNotChanged(t *testing.T) {
	x := written(5, 3, "abc")
	for _, code := range []byte("@ABCDEFGHIJKLMPSTXZ`adefghlmnrsu") {
		params := []int{0, -1, 2, 9999}
		Do(x, api.Event{Kind: api.SequenceEvent, Params: params, Code: code})
		if !slices.Equal(params, []int{0, -1, 2, 9999}) {
			t.Errorf("%c changes the parameters to %v", code, params)
		}
	}
}

// P13.1: terminals that share memory within themselves are as good as others.
func TestSharedMemory(t *testing.T) {
	row := blankRow(3, -1)
	g := api.Grid{Width: 3, Height: 3, Rows: [][]api.Cell{row, row, row}}
	x := written(3, 3, "")
	x.Grid, x.Other, x.Back = g, g, g.Rows
	if got := Write(x, "ab\r\n\n\n\n\x1b[1;2H\x1b[K\x1b[?1049hc"); picture(got.Grid.Rows) != " c |   |   " || picture(got.Other.Rows) != "   |   |   " || picture(got.Back) != "   |   |   |ab |   " {
		t.Errorf("%q, %q, %q", picture(got.Grid.Rows), picture(got.Other.Rows), picture(got.Back))
	}
	if picture(g.Rows) != "   |   |   " {
		t.Errorf("the rows were changed to %q", picture(g.Rows))
	}
}

// spoiled returns a terminal with a few fields that are not proper.
func spoiled(x api.Terminal, random *rand.Rand) api.Terminal {
	x = copied(x)
	numbers := []int{math.MinInt, -1 << 40, -2, -1, 0, 1, 2, 5, 9, 59, 60, 131, 133, 1 << 40, math.MaxInt - 1, math.MaxInt}
	bad := [][]api.Cell{nil, {}, {{}}, {{Text: "x", Width: 2}}, {{Text: "", Width: 0}, {Width: -5}}, blankRow(200, -1)}
	for range 1 + random.Intn(4) {
		n := pick(random, numbers)
		switch random.Intn(16) {
		case 0:
			x.Cursor.Row = n
		case 1:
			x.Cursor.Col = n
		case 2:
			x.Cursor.Pending = true
		case 3:
			x.Top = n
		case 4:
			x.Bottom = n
		case 5:
			x.Grid.Width = n
		case 6:
			x.Grid.Height = n
		case 7:
			x.Other = api.Grid{Width: n, Rows: bad}
		case 8:
			x.Tabs = pick(random, [][]bool{nil, make([]bool, 1), make([]bool, 200)})
		case 9:
			x.Attr = api.Attr{Fore: n, Back: -n, Flags: n}
		case 10:
			x.Modes.Shift, x.Modes.Sets = n, [2]byte{1, 2}
		case 11:
			x.Saved = api.Saved{Cursor: api.Cursor{Row: n, Col: -n, Pending: true}, Shift: n}
		case 12:
			x.Back = slices.Repeat(bad, 100)
		case 13:
			if len(x.Grid.Rows) > 0 {
				x.Grid.Rows[random.Intn(len(x.Grid.Rows))] = pick(random, bad)
			}
		case 14:
			x.Grid.Rows = x.Grid.Rows[:len(x.Grid.Rows)/2]
		case 15:
			x.Parser, x.Title = api.Parser{State: n, Buffer: "\xff"}, "\xff"
		}
	}
	return x
}

// R1: every function returns for terminals that are not proper.
func TestImproperTerminals(t *testing.T) {
	eachShaped(19, 25, func(x api.Terminal, random *rand.Rand) {
		x = spoiled(x, random)
		if e := Check(x); e != chapterCheck(x) {
			t.Fatalf("%v: error %d, by the chapter %d", x, e, chapterCheck(x))
		}
		Replies(x)
		Resize(x, 3, 3)
		Resize(x, math.MinInt, math.MaxInt)
		for _, r := range []rune{'a', 0x301, 0x6F22} {
			Do(x, api.Event{Kind: api.PrintEvent, Rune: r})
		}
		for code := byte(0x40); code <= 0x7E; code++ {
			params := [][]int{nil, {2}, {9999}, {2, 3}}
			Do(x, api.Event{Kind: api.SequenceEvent, Params: pick(random, params), Code: code})
		}
		for range 4 {
			x = Write(x, stream(random, 12)+pick(random, []string{"", "\x1bc"}))
		}
	})
	for _, r := range []rune{'a', 0x301, 0x6F22} {
		Do(api.Terminal{}, api.Event{Kind: api.PrintEvent, Rune: r})
	}
	Write(api.Terminal{}, "a\u0301\n\r\t\b\x1bM\x1bc\x1b[?1049h\x1b[L\x1b[9999I\x1b[J\x1b[g\x1b[6n\x1b[?6l\x1b[2;3r")
}
