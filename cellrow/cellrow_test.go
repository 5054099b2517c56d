package cellrow

import (
	"math"
	"slices"
	"strings"
	"testing"

	"narrator/api"
)

// The renditions of the tests: the default one, one for the cells of a row, and one that is passed with a change.
var (
	plain = api.Attr{Fore: -1, Back: -1}
	red   = api.Attr{Fore: 7, Back: 1, Flags: api.Bold}
	blue  = api.Attr{Fore: 3, Back: 4, Flags: api.Blink | api.Reverse}
)

// han is the chapter's example of a cluster of width 2.
const han = "\u6F22"

// changedAttrs are renditions to make a change with, also some that are not proper.
var changedAttrs = []api.Attr{plain, blue, {}, {Fore: math.MaxInt, Back: math.MinInt, Flags: -1}}

// outside are numbers beyond both ends of every range.
var outside = []int{math.MinInt, math.MinInt + 1, -1 << 32, -133, math.MaxInt, math.MaxInt - 1, 1 << 32, 1000}

// cell returns a cell.
func cell(text string, width int, a api.Attr) api.Cell {
	return api.Cell{Text: text, Width: width, Attr: a}
}

// rowOf returns the row of clusters of one character, all with the same rendition.
func rowOf(text string, a api.Attr) []api.Cell {
	l := []api.Cell{}
	for _, r := range text {
		c := string(r)
		l = append(l, api.Cell{Text: c, Width: clusterWidths[c], Attr: a})
		if clusterWidths[c] == 2 {
			l = append(l, api.Cell{Attr: a})
		}
	}
	return l
}

// numbersAround returns the numbers from two below low to two above high, and huge ones.
func numbersAround(low, high int) []int {
	numbers := slices.Clone(outside)
	for n := low - 2; n <= high+2; n++ {
		numbers = append(numbers, n)
	}
	return numbers
}

// guarded calls a function with a row that has other cells before and after it in memory. It reports if the function changed one of them or the row, or if writing to the result does.
func guarded(t *testing.T, l []api.Cell, call func(l []api.Cell) []api.Cell) []api.Cell {
	t.Helper()
	other := api.Cell{Text: "other", Width: 9, Attr: red}
	memory := slices.Concat(slices.Repeat([]api.Cell{other}, 4), l, slices.Repeat([]api.Cell{other}, 140))
	before := slices.Clone(memory)
	result := call(memory[4 : 4+len(l)])
	if !slices.Equal(memory, before) {
		t.Fatalf("the argument %v was changed", l)
	}
	got := slices.Clone(result)
	written := result[:cap(result)]
	for i := range written {
		written[i] = api.Cell{Text: "written", Width: 8, Attr: blue}
	}
	if !slices.Equal(memory, before) {
		t.Fatalf("the result shares memory with the argument %v", l)
	}
	return got
}

// comparePut compares Put with the chapter.
func comparePut(t *testing.T, l []api.Cell, col int, c string, a api.Attr) {
	t.Helper()
	var e api.Errno
	got := guarded(t, l, func(l []api.Cell) (row []api.Cell) {
		row, e = Put(l, col, c, a)
		return row
	})
	if want, wantError := chapterPut(l, col, c, a); e != wantError || !slices.Equal(got, want) {
		t.Fatalf("Put(%v, %d, %q, %v) = %v, error %d, want %v, error %d", l, col, c, a, got, e, want, wantError)
	}
}

// An edit is one of the functions that change a row by two numbers.
type edit struct {
	name    string
	program func(l []api.Cell, first, second int, a api.Attr) ([]api.Cell, api.Errno)
	chapter func(l []api.Cell, first, second int, a api.Attr) ([]api.Cell, api.Errno)
}

// edits are Insert, Delete and Erase.
var edits = []edit{{"Insert", Insert, chapterInsert}, {"Delete", Delete, chapterDelete}, {"Erase", Erase, chapterErase}}

// compare compares the program with the chapter.
func (x edit) compare(t *testing.T, l []api.Cell, first, second int, a api.Attr) {
	t.Helper()
	var e api.Errno
	got := guarded(t, l, func(l []api.Cell) (row []api.Cell) {
		row, e = x.program(l, first, second, a)
		return row
	})
	if want, wantError := x.chapter(l, first, second, a); e != wantError || !slices.Equal(got, want) {
		t.Fatalf("%s(%v, %d, %d, %v) = %v, error %d, want %v, error %d", x.name, l, first, second, a, got, e, want, wantError)
	}
}

// compareFit compares Fit with the chapter.
func compareFit(t *testing.T, l []api.Cell, width int) {
	t.Helper()
	got := guarded(t, l, func(l []api.Cell) []api.Cell { return Fit(l, width) })
	if want := chapterFit(l, width); !slices.Equal(got, want) {
		t.Fatalf("Fit(%v, %d) = %v, want %v", l, width, got, want)
	}
}

// P7.1: rows of each width, with the color alone of any rendition, and none of other widths.
func TestBlank(t *testing.T) {
	for _, a := range append([]api.Attr{red}, changedAttrs...) {
		cell := api.Cell{Text: " ", Width: 1, Attr: api.Attr{Fore: -1, Back: a.Back}}
		for width := 1; width <= 132; width++ {
			l := Blank(width, a)
			if len(l) != width || slices.ContainsFunc(l, func(c api.Cell) bool { return c != cell }) {
				t.Errorf("Blank(%d, %v) = %v", width, a, l)
			}
		}
		for _, width := range append([]int{0, -1, 133, 134, 264}, outside...) {
			if l := Blank(width, a); len(l) != 0 {
				t.Errorf("Blank(%d, %v) = %v", width, a, l)
			}
		}
	}
}

// P7.1: a blank row is new memory.
func TestBlankIsNew(t *testing.T) {
	first, second := Blank(3, red), Blank(3, red)
	first[0].Text, first[2].Width = "x", 7
	if e := Check(second); e != api.OK || Text(second) != "   " || Text(Blank(3, red)) != "   " {
		t.Errorf("a blank row was changed with another one: %v", second)
	}
}

// P7.1: the number of cells, which counts before everything else.
func TestCheckLength(t *testing.T) {
	narrowCell, bad := rowOf("a", red), api.Cell{Width: 1}
	for _, c := range []struct {
		length int
		e      api.Errno
	}{{0, api.ErrLimit}, {1, api.OK}, {2, api.OK}, {131, api.OK}, {132, api.OK}, {133, api.ErrLimit}, {134, api.ErrLimit}, {264, api.ErrLimit}, {100000, api.ErrLimit}} {
		l := slices.Repeat(narrowCell, c.length)
		if e := Check(l); e != c.e {
			t.Errorf("%d narrow cells: error %d, want %d", c.length, e, c.e)
		}
		if c.length == 0 {
			continue
		}
		l[c.length-1] = bad
		want := c.e
		if want == api.OK {
			want = api.ErrSyntax
		}
		if e := Check(l); e != want {
			t.Errorf("%d cells, of which the last one is bad: error %d, want %d", c.length, e, want)
		}
	}
	for pairs, want := range map[int]api.Errno{1: api.OK, 66: api.OK, 67: api.ErrLimit} {
		if e := Check(rowOf(strings.Repeat(han, pairs), red)); e != want {
			t.Errorf("%d wide pairs: error %d, want %d", pairs, e, want)
		}
	}
	if e := Check(nil); e != api.ErrLimit {
		t.Errorf("Check(nil) = %d", e)
	}
}

// P7.1: each condition that a cell may violate.
func TestCheck(t *testing.T) {
	a, b := red, red
	b.Flags = 0
	for _, c := range []struct {
		name string
		l    []api.Cell
		e    api.Errno
	}{
		{"narrow", []api.Cell{cell("a", 1, a)}, api.OK},
		{"narrow with three marks", []api.Cell{cell("e\u0300\u0301\u0302", 1, a)}, api.OK},
		{"a pair", []api.Cell{cell(han, 2, a), cell("", 0, a)}, api.OK},
		{"a pair with three marks", []api.Cell{cell(han+"\u0300\u0301\u0302", 2, a), cell("", 0, a)}, api.OK},
		{"pairs with different renditions", []api.Cell{cell(han, 2, a), cell("", 0, a), cell(han, 2, b), cell("", 0, b)}, api.OK},
		{"a rendition that is not proper", []api.Cell{cell("a", 1, api.Attr{Fore: math.MinInt, Back: math.MaxInt, Flags: -1})}, api.OK},
		{"no text", []api.Cell{cell("", 1, a)}, api.ErrSyntax},
		{"two clusters", []api.Cell{cell("ab", 1, a)}, api.ErrSyntax},
		{"four marks", []api.Cell{cell("e\u0300\u0301\u0302\u0303", 1, a)}, api.ErrSyntax},
		{"a mark alone", []api.Cell{cell("\u0301", 1, a)}, api.ErrSyntax},
		{"a control character", []api.Cell{cell("\n", 1, a)}, api.ErrSyntax},
		{"no UTF-8", []api.Cell{cell("\xFF", 1, a)}, api.ErrSyntax},
		{"a first half without text", []api.Cell{cell("", 2, a), cell("", 0, a)}, api.ErrSyntax},
		{"a first half with two clusters", []api.Cell{cell(han+han, 2, a), cell("", 0, a)}, api.ErrSyntax},
		{"a first half without text at the end", []api.Cell{cell("", 2, a)}, api.ErrSyntax},
		{"a wide cluster in a narrow cell", []api.Cell{cell(han, 1, a)}, api.ErrWidth},
		{"a wide cluster in a narrow cell before a second half", []api.Cell{cell(han, 1, a), cell("", 0, a)}, api.ErrWidth},
		{"a narrow cluster in a pair", []api.Cell{cell("a", 2, a), cell("", 0, a)}, api.ErrWidth},
		{"the width 3", []api.Cell{cell("a", 3, a)}, api.ErrWidth},
		{"the width 3 without text", []api.Cell{cell("", 3, a)}, api.ErrWidth},
		{"the width -1", []api.Cell{cell("a", -1, a)}, api.ErrWidth},
		{"the width -1 without text", []api.Cell{cell("", -1, a)}, api.ErrWidth},
		{"the greatest width", []api.Cell{cell("a", math.MaxInt, a)}, api.ErrWidth},
		{"the least width", []api.Cell{cell("\xFF", math.MinInt, a)}, api.ErrWidth},
		{"a second half at the beginning", []api.Cell{cell("", 0, a)}, api.ErrWidth},
		{"a second half after a narrow cell", []api.Cell{cell("a", 1, a), cell("", 0, a)}, api.ErrWidth},
		{"a second half after a pair", []api.Cell{cell(han, 2, a), cell("", 0, a), cell("", 0, a)}, api.ErrWidth},
		{"the width 0 with a text", []api.Cell{cell("a", 0, a)}, api.ErrWidth},
		{"the width 0 with no cluster", []api.Cell{cell("\xFF", 0, a)}, api.ErrWidth},
		{"a first half at the end", []api.Cell{cell("a", 1, a), cell(han, 2, a)}, api.ErrWidth},
		{"a first half before a narrow cell", []api.Cell{cell(han, 2, a), cell("a", 1, a)}, api.ErrWidth},
		{"a first half before a pair", []api.Cell{cell(han, 2, a), cell(han, 2, a), cell("", 0, a)}, api.ErrWidth},
		{"a second half with a text", []api.Cell{cell(han, 2, a), cell(" ", 0, a)}, api.ErrWidth},
		{"halves with different flags", []api.Cell{cell(han, 2, a), cell("", 0, b)}, api.ErrWidth},
		{"halves with different foregrounds", []api.Cell{cell(han, 2, a), cell("", 0, api.Attr{Fore: 8, Back: a.Back, Flags: a.Flags})}, api.ErrWidth},
		{"halves with different backgrounds", []api.Cell{cell(han, 2, a), cell("", 0, api.Attr{Fore: a.Fore, Back: 2, Flags: a.Flags})}, api.ErrWidth},
	} {
		if e := Check(c.l); e != c.e || chapterCheck(c.l) != c.e {
			t.Errorf("%s: error %d, want %d", c.name, e, c.e)
		}
	}
}

// P7.1: of several cells that violate the conditions the first one counts. A first half violates them if what follows it is not its second half, whatever that is.
func TestCheckFirstOfSeveral(t *testing.T) {
	for _, c := range []struct {
		name string
		l    []api.Cell
		e    api.Errno
	}{
		{"no cluster, then a width", []api.Cell{cell("a", 1, red), cell("ab", 1, red), cell("a", 3, red)}, api.ErrSyntax},
		{"a width, then no cluster", []api.Cell{cell("a", 1, red), cell("a", 3, red), cell("ab", 1, red)}, api.ErrWidth},
		{"no cluster, then a second half", []api.Cell{cell("", 1, red), cell("", 0, red)}, api.ErrSyntax},
		{"a second half, then no cluster", []api.Cell{cell("", 0, red), cell("", 1, red)}, api.ErrWidth},
		{"a first half, then a narrow cell without text", []api.Cell{cell(han, 2, red), cell("", 1, red)}, api.ErrWidth},
		{"a first half, then another one without text", []api.Cell{cell(han, 2, red), cell("", 2, red)}, api.ErrWidth},
		{"a first half without text, then a width", []api.Cell{cell("", 2, red), cell("a", 3, red)}, api.ErrSyntax},
		{"a narrow cluster in a pair, then no cluster", []api.Cell{cell("a", 2, red), cell("ab", 1, red)}, api.ErrWidth},
		{"two that are no clusters", []api.Cell{cell("ab", 1, red), cell("", 2, red)}, api.ErrSyntax},
	} {
		if e := Check(c.l); e != c.e || chapterCheck(c.l) != c.e {
			t.Errorf("%s: error %d, want %d", c.name, e, c.e)
		}
	}
}

// cellSamples are cells of every kind, proper ones and those that violate each condition.
func cellSamples() []api.Cell {
	return []api.Cell{
		cell("a", 1, red), cell("e\u0301", 1, plain), cell(" ", 1, plain),
		cell(han, 2, red), cell("", 0, red), cell("\u6F22\u0301", 2, plain), cell("", 0, plain),
		cell("", 1, red), cell("ab", 1, red), cell("", 2, red), cell("\xFF", 2, red),
		cell(han, 1, red), cell("a", 2, red), cell("a", 0, red), cell("a", 3, red), cell("", -1, red),
	}
}

// eachList calls a function with every list of at most n samples.
func eachList(n int, use func(l []api.Cell)) {
	samples := cellSamples()
	var grow func(l []api.Cell, n int)
	grow = func(l []api.Cell, n int) {
		use(l)
		if n > 0 {
			for _, c := range samples {
				grow(append(slices.Clone(l), c), n-1)
			}
		}
	}
	grow(nil, n)
}

// P7.1: every list of up to four samples.
func TestCheckOfAllShortLists(t *testing.T) {
	eachList(4, func(l []api.Cell) {
		if e, want := Check(l), chapterCheck(l); e != want {
			t.Fatalf("Check(%v) = %d, want %d", l, e, want)
		}
	})
}

// P7.1: a cell of every kind at each column of rows of every shape, and every text that is no cluster.
func TestCheckOfOneOtherCell(t *testing.T) {
	samples := cellSamples()
	for _, text := range noClusters {
		samples = append(samples, api.Cell{Text: text, Width: 1}, api.Cell{Text: text, Width: 2}, api.Cell{Text: text, Width: 0})
	}
	check := func(l []api.Cell) {
		for col := range l {
			for _, c := range samples {
				changed := slices.Clone(l)
				changed[col] = c
				if e, want := Check(changed), chapterCheck(changed); e != want {
					t.Fatalf("Check(%v) = %d, want %d", changed, e, want)
				}
			}
		}
	}
	eachShortRow(6, check)
	eachLongRow(check)
}

// P7.1: the cases of Put that the chapter names.
func TestPut(t *testing.T) {
	for _, c := range []struct {
		name string
		text string
		col  int
		c    string
		want string
		e    api.Errno
	}{
		{"narrow over narrow", "abcd", 1, "x", "axcd", api.OK},
		{"narrow in the first column", "abcd", 0, "x", "xbcd", api.OK},
		{"narrow in the last column", "abcd", 3, "x", "abcx", api.OK},
		{"narrow in the only column", "a", 0, "x", "x", api.OK},
		{"narrow over a first half", "a" + han + "d", 1, "x", "ax d", api.OK},
		{"narrow over a second half", "a" + han + "d", 2, "x", "a xd", api.OK},
		{"narrow over a first half at the beginning", han + "cd", 0, "x", "x cd", api.OK},
		{"narrow over a second half at the end", "ab" + han, 3, "x", "ab x", api.OK},
		{"narrow beside pairs", han + "a" + han, 2, "x", han + "x" + han, api.OK},
		{"wide over narrow", "abcd", 1, han, "a" + han + "d", api.OK},
		{"wide in the last two columns", "abcd", 2, han, "ab" + han, api.OK},
		{"wide in the only two columns", "ab", 0, han, han, api.OK},
		{"wide over a pair", "a" + han + "d", 1, "\u5B57", "a\u5B57d", api.OK},
		{"wide over two halves", han + han, 1, "\u5B57", " \u5B57 ", api.OK},
		{"wide over a second half", han + "cd", 1, "\u5B57", " \u5B57d", api.OK},
		{"wide over a first half", "ab" + han, 1, "\u5B57", "a\u5B57 ", api.OK},
		{"wide in the last column", "abcd", 3, han, "", api.ErrWidth},
		{"wide in the only column", "a", 0, han, "", api.ErrWidth},
		{"wide over a second half in the last column", "ab" + han, 3, han, "", api.ErrWidth},
		{"no text", "abcd", 0, "", "", api.ErrSyntax},
		{"two clusters", "abcd", 0, "ab", "", api.ErrSyntax},
		{"a mark", "abcd", 0, "\u0301", "", api.ErrSyntax},
		{"before the row", "abcd", -1, "x", "", api.ErrRange},
		{"after the row", "abcd", 4, "x", "", api.ErrRange},
		{"wide after the row", "abcd", 4, han, "", api.ErrRange},
		{"no row", "", 0, "x", "", api.ErrArgument},
	} {
		got, e := Put(rowOf(c.text, plain), c.col, c.c, plain)
		if want := rowOf(c.want, plain); e != c.e || !slices.Equal(got, want) {
			t.Errorf("%s: %v, error %d, want %v, error %d", c.name, got, e, want, c.e)
		}
	}
}

// P7.1: which renditions the cells have after Put.
func TestPutRenditions(t *testing.T) {
	got, e := Put(rowOf(han+han+"a", red), 1, "\u5B57", blue)
	want := []api.Cell{chapterBlank(1), cell("\u5B57", 2, blue), cell("", 0, blue), chapterBlank(1), cell("a", 1, red)}
	if e != api.OK || !slices.Equal(got, want) {
		t.Errorf("%v, error %d, want %v", got, e, want)
	}
	got, e = Put(rowOf(han+"a", red), 0, "x", blue)
	want = []api.Cell{cell("x", 1, blue), chapterBlank(1), cell("a", 1, red)}
	if e != api.OK || !slices.Equal(got, want) {
		t.Errorf("%v, error %d, want %v", got, e, want)
	}
}

// P7.1: every cluster and every text that is none, at every column of every short row and outside of it.
func TestPutInAllShortRows(t *testing.T) {
	texts := slices.Concat(narrowTexts, wideTexts, noClusters)
	eachShortRow(6, func(l []api.Cell) {
		for _, col := range numbersAround(0, len(l)) {
			for i, c := range texts {
				comparePut(t, l, col, c, changedAttrs[i%len(changedAttrs)])
			}
		}
	})
}

// P7.1: a narrow and a wide cluster at every column of long rows.
func TestPutInLongRows(t *testing.T) {
	eachLongRow(func(l []api.Cell) {
		for _, col := range numbersAround(0, len(l)) {
			for _, c := range []string{"x", "\u6F22\u0301", "ab"} {
				comparePut(t, l, col, c, blue)
			}
		}
	})
}

// P7.1: the cases of Insert and Delete that the chapter names.
func TestInsertAndDelete(t *testing.T) {
	for _, c := range []struct {
		name              string
		text              string
		col, n            int
		inserted, deleted string
	}{
		{"one in the first column", "abcd", 0, 1, " abc", "bcd "},
		{"two in the middle", "abcd", 1, 2, "a  b", "ad  "},
		{"one in the last column", "abcd", 3, 1, "abc ", "abc "},
		{"the only column", "a", 0, 1, " ", " "},
		{"all columns", "abcd", 0, 4, "    ", "    "},
		{"the columns from one on", "abcd", 2, 2, "ab  ", "ab  "},
		{"one more", "abcd", 2, 3, "ab  ", "ab  "},
		{"far more", "abcd", 2, math.MaxInt, "ab  ", "ab  "},
		{"none", "abcd", 2, 0, "abcd", "abcd"},
		{"none at a second half", "a" + han + "d", 2, 0, "a" + han + "d", "a" + han + "d"},
		{"less than none", "a" + han + "d", 2, -1, "a" + han + "d", "a" + han + "d"},
		{"far less than none", "a" + han + "d", 2, math.MinInt, "a" + han + "d", "a" + han + "d"},
		{"at a second half", han + "cd", 1, 1, "   c", " cd "},
		{"at a second half at the end", "ab" + han, 3, 1, "ab  ", "ab  "},
		{"at a first half", "a" + han + "d", 1, 1, "a " + han, "a d "},
		{"at a first half at the end", "ab" + han, 2, 1, "ab  ", "ab  "},
		{"both halves", "a" + han + "d", 1, 2, "a   ", "ad  "},
		{"a first half in the last column", "ab" + han, 0, 1, " ab ", "b" + han + " "},
		{"a pair that fits", "a" + han + "d", 0, 1, " a" + han, han + "d "},
		{"up to a second half", "a" + han + "d", 0, 2, "  a ", " d  "},
		{"at halves on both ends", han + han, 1, 2, "    ", "    "},
	} {
		got, e := Insert(rowOf(c.text, plain), c.col, c.n, plain)
		if want := rowOf(c.inserted, plain); e != api.OK || !slices.Equal(got, want) {
			t.Errorf("insert %s: %v, error %d, want %v", c.name, got, e, want)
		}
		got, e = Delete(rowOf(c.text, plain), c.col, c.n, plain)
		if want := rowOf(c.deleted, plain); e != api.OK || !slices.Equal(got, want) {
			t.Errorf("delete %s: %v, error %d, want %v", c.name, got, e, want)
		}
	}
}

// P7.1: which renditions the cells have after Insert and Delete.
func TestInsertAndDeleteRenditions(t *testing.T) {
	own, fresh := chapterBlank(1), chapterBlank(4)
	a, first, second := api.Cell{Text: "a", Width: 1, Attr: red}, api.Cell{Text: han, Width: 2, Attr: red}, api.Cell{Attr: red}
	for _, c := range []struct {
		text              string
		col, n            int
		inserted, deleted []api.Cell
	}{
		{han + "a", 1, 1, []api.Cell{own, fresh, own}, []api.Cell{own, a, fresh}},
		{"a" + han, 0, 1, []api.Cell{fresh, a, own}, []api.Cell{first, second, fresh}},
		{"a" + han, 1, 1, []api.Cell{a, fresh, own}, []api.Cell{a, own, fresh}},
		{han + han, 1, 2, []api.Cell{own, fresh, fresh, own}, []api.Cell{own, own, fresh, fresh}},
		{han, 1, 5, []api.Cell{own, fresh}, []api.Cell{own, fresh}},
	} {
		if got, e := Insert(rowOf(c.text, red), c.col, c.n, blue); e != api.OK || !slices.Equal(got, c.inserted) {
			t.Errorf("Insert(%q, %d, %d) = %v, error %d, want %v", c.text, c.col, c.n, got, e, c.inserted)
		}
		if got, e := Delete(rowOf(c.text, red), c.col, c.n, blue); e != api.OK || !slices.Equal(got, c.deleted) {
			t.Errorf("Delete(%q, %d, %d) = %v, error %d, want %v", c.text, c.col, c.n, got, e, c.deleted)
		}
	}
}

// P7.1: the cases of Erase that the chapter names.
func TestErase(t *testing.T) {
	for _, c := range []struct {
		name     string
		text     string
		from, to int
		want     string
		e        api.Errno
	}{
		{"in the middle", "abcd", 1, 3, "a  d", api.OK},
		{"at the beginning", "abcd", 0, 2, "  cd", api.OK},
		{"at the end", "abcd", 2, 4, "ab  ", api.OK},
		{"the whole row", "a" + han + "d", 0, 4, "    ", api.OK},
		{"the only column", "a", 0, 1, " ", api.OK},
		{"nothing", "abcd", 2, 2, "abcd", api.OK},
		{"nothing before the row", "abcd", 0, 0, "abcd", api.OK},
		{"nothing after the row", "abcd", 4, 4, "abcd", api.OK},
		{"nothing within a pair", "a" + han + "d", 2, 2, "a" + han + "d", api.OK},
		{"a pair", "a" + han + "d", 1, 3, "a  d", api.OK},
		{"a first half", "a" + han + "d", 1, 2, "a  d", api.OK},
		{"a second half", "a" + han + "d", 2, 3, "a  d", api.OK},
		{"up to a first half", "a" + han + "d", 0, 1, " " + han + "d", api.OK},
		{"up to a second half", "a" + han + "d", 0, 2, "   d", api.OK},
		{"from a second half at the end on", "ab" + han, 3, 4, "ab  ", api.OK},
		{"from after a pair on", "a" + han + "d", 3, 4, "a" + han + " ", api.OK},
		{"halves on both ends", han + han, 1, 3, "    ", api.OK},
		{"backwards", "abcd", 3, 2, "", api.ErrRange},
		{"before the row", "abcd", -1, 2, "", api.ErrRange},
		{"nothing, before the row", "abcd", -1, -1, "", api.ErrRange},
		{"beyond the row", "abcd", 0, 5, "", api.ErrRange},
		{"nothing, beyond the row", "abcd", 5, 5, "", api.ErrRange},
		{"no row", "", 0, 0, "", api.ErrArgument},
	} {
		got, e := Erase(rowOf(c.text, plain), c.from, c.to, plain)
		if want := rowOf(c.want, plain); e != c.e || !slices.Equal(got, want) {
			t.Errorf("%s: %v, error %d, want %v, error %d", c.name, got, e, want, c.e)
		}
	}
	got, e := Erase(rowOf(han+han+"a", red), 1, 3, blue)
	if want := []api.Cell{chapterBlank(1), chapterBlank(4), chapterBlank(4), chapterBlank(1), cell("a", 1, red)}; e != api.OK || !slices.Equal(got, want) {
		t.Errorf("%v, error %d, want %v", got, e, want)
	}
}

// P7.1: every pair of numbers in and around the range, for every short row.
func TestEditsOfAllShortRows(t *testing.T) {
	eachShortRow(7, func(l []api.Cell) {
		for _, first := range numbersAround(0, len(l)) {
			for i, second := range numbersAround(0, len(l)) {
				for _, x := range edits {
					x.compare(t, l, first, second, changedAttrs[i%len(changedAttrs)])
				}
			}
		}
	})
}

// P7.1: every third column of long rows, with numbers near both ends and near the column.
func TestEditsOfLongRows(t *testing.T) {
	eachLongRow(func(l []api.Cell) {
		for first := 0; first < len(l); first += 3 {
			left := len(l) - first
			for _, second := range []int{-1, 0, 1, 2, first, first + 1, first + 2, left - 1, left, left + 1, len(l) - 1, len(l), len(l) + 1, math.MaxInt} {
				for _, x := range edits {
					x.compare(t, l, first, second, blue)
				}
			}
		}
	})
}

// P7.1: the cases of Fit that the chapter names.
func TestFit(t *testing.T) {
	for _, c := range []struct {
		name  string
		text  string
		width int
		want  string
	}{
		{"narrower", "abcd", 2, "ab"},
		{"one column", "abcd", 1, "a"},
		{"the same width", "a" + han + "d", 4, "a" + han + "d"},
		{"wider", "abcd", 6, "abcd  "},
		{"wider after a pair", "ab" + han, 5, "ab" + han + " "},
		{"through a pair", "a" + han + "d", 2, "a "},
		{"through a pair at the beginning", han + "cd", 1, " "},
		{"through a pair at the end", "ab" + han, 3, "ab "},
		{"after a pair", "a" + han + "d", 3, "a" + han},
		{"before a pair", "a" + han + "d", 1, "a"},
		{"no width", "abcd", 0, ""},
		{"a negative width", "abcd", -1, ""},
		{"a width that is too great", "abcd", 133, ""},
		{"no row", "", 3, ""},
	} {
		if got, want := Fit(rowOf(c.text, plain), c.width), rowOf(c.want, plain); !slices.Equal(got, want) {
			t.Errorf("%s: %v, want %v", c.name, got, want)
		}
	}
	if got := Fit(rowOf(han, red), 1); !slices.Equal(got, []api.Cell{chapterBlank(1)}) {
		t.Errorf("the color of a half is lost: %v", got)
	}
	if got := Fit(rowOf("a", red), 2); !slices.Equal(got, []api.Cell{cell("a", 1, red), chapterBlank(-1)}) {
		t.Errorf("the color of the added column is wrong: %v", got)
	}
}

// P7.1: every short row and long rows, fitted to every width and to those beyond the bounds.
func TestFitToAllWidths(t *testing.T) {
	check := func(l []api.Cell) {
		for _, width := range numbersAround(0, 133) {
			compareFit(t, l, width)
		}
	}
	eachShortRow(6, check)
	eachLongRow(check)
}

// P7.1: the texts of all lists, also of those that are not rows.
func TestText(t *testing.T) {
	for _, c := range []struct {
		l    []api.Cell
		want string
	}{
		{nil, ""},
		{[]api.Cell{}, ""},
		{rowOf("a"+han+"d", red), "a" + han + "d"},
		{[]api.Cell{cell("e\u0301", 1, red), cell(" ", 1, red)}, "e\u0301 "},
		{[]api.Cell{cell("ab", 7, red), cell("", 1, red), cell("\xFF", -1, red), cell(han, 0, red)}, "ab\xFF" + han},
		{slices.Repeat(rowOf("ab", red), 500), strings.Repeat("ab", 500)},
	} {
		if got := Text(c.l); got != c.want {
			t.Errorf("Text(%v) = %q, want %q", c.l, got, c.want)
		}
	}
	eachList(3, func(l []api.Cell) {
		if got, want := Text(l), chapterText(l); got != want {
			t.Fatalf("Text(%v) = %q, want %q", l, got, want)
		}
	})
}

// P7.1: a list that is not a proper row is reported before all other errors, and Fit returns nothing for it.
func TestImproperRows(t *testing.T) {
	check := func(l []api.Cell) {
		if Check(l) == api.OK {
			return
		}
		for _, col := range []int{-1, 0, 1, 2, 500} {
			for _, c := range []string{"x", han, ""} {
				comparePut(t, l, col, c, blue)
			}
			for _, n := range []int{-1, 0, 1, 500} {
				for _, x := range edits {
					x.compare(t, l, col, n, blue)
				}
			}
			compareFit(t, l, col)
		}
	}
	eachList(2, check)
	for _, length := range []int{133, 134, 1000} {
		check(slices.Repeat(rowOf("a", red), length))
		check(slices.Repeat(rowOf(han, red), length))
	}
}

// P7.1: which error is returned if several apply.
func TestOrderOfErrors(t *testing.T) {
	bad, good, long := []api.Cell{cell("", 1, red)}, rowOf("ab", red), slices.Repeat(rowOf("a", red), 133)
	for _, c := range []struct {
		name string
		l    []api.Cell
		col  int
		c    string
		e    api.Errno
	}{
		{"row, column and cluster", bad, -1, "", api.ErrArgument},
		{"row and cluster", bad, 0, "ab", api.ErrArgument},
		{"row and width", bad, 0, han, api.ErrArgument},
		{"too long a row and column", long, 133, "x", api.ErrArgument},
		{"column and cluster", good, 2, "", api.ErrRange},
		{"column and width", good, 2, han, api.ErrRange},
		{"cluster of two wide characters in the last column", good, 1, han + han, api.ErrSyntax},
		{"width alone", good, 1, han, api.ErrWidth},
	} {
		if got, e := Put(c.l, c.col, c.c, blue); len(got) != 0 || e != c.e {
			t.Errorf("Put, %s: %v, error %d, want %d", c.name, got, e, c.e)
		}
	}
	for _, x := range edits {
		for _, l := range [][]api.Cell{nil, {}, bad, long} {
			for _, col := range []int{-1, 0, 1, 133, 134} {
				if got, e := x.program(l, col, col-1, blue); len(got) != 0 || e != api.ErrArgument {
					t.Errorf("%s(%v, %d): %v, error %d", x.name, l, col, got, e)
				}
			}
		}
		for _, col := range []int{-1, 3} {
			for _, n := range []int{-5, 0, 2} {
				if got, e := x.program(good, col, n, blue); len(got) != 0 || e != api.ErrRange {
					t.Errorf("%s(%v, %d, %d): %v, error %d", x.name, good, col, n, got, e)
				}
			}
		}
	}
}

// P7.1: the examples of the chapter.
func TestExamples(t *testing.T) {
	first, e := Put(rowOf("abcd", plain), 1, han, plain)
	if e != api.OK || !slices.Equal(first, rowOf("a"+han+"d", plain)) {
		t.Errorf("%v, error %d", first, e)
	}
	second, e := Put(first, 2, "x", plain)
	if e != api.OK || !slices.Equal(second, rowOf("a xd", plain)) {
		t.Errorf("%v, error %d", second, e)
	}
	third, e := Insert(rowOf("abcd", plain), 0, 1, plain)
	if e != api.OK || !slices.Equal(third, rowOf(" abc", plain)) {
		t.Errorf("%v, error %d", third, e)
	}
}
