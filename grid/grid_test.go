package grid

import (
	"math"
	"math/rand"
	"slices"
	"strings"
	"testing"

	"narrator/api"
	"narrator/cellrow"
)

// The renditions of the tests: the default one, one for the cells of a grid, and one that is passed with a change.
var (
	plain = api.Attr{Fore: -1, Back: -1}
	red   = api.Attr{Fore: 7, Back: 1, Flags: api.Bold}
	blue  = api.Attr{Fore: 3, Back: 4, Flags: api.Blink | api.Reverse}
)

// changedAttrs are renditions to make a change with, also some that are not proper.
var changedAttrs = []api.Attr{plain, blue, {}, {Fore: math.MaxInt, Back: math.MinInt, Flags: -1}}

// cell returns a cell.
func cell(text string, width int, a api.Attr) api.Cell {
	return api.Cell{Text: text, Width: width, Attr: a}
}

// rowOf returns the row of the characters of a text, of which those from U+3000 on are wide, all with the same rendition.
func rowOf(text string, a api.Attr) []api.Cell {
	l := []api.Cell{}
	for _, r := range text {
		if r >= 0x3000 {
			l = append(l, cell(string(r), 2, a), cell("", 0, a))
			continue
		}
		l = append(l, cell(string(r), 1, a))
	}
	return l
}

// gridFrom returns the grid of rows of characters with the same rendition.
func gridFrom(a api.Attr, texts ...string) api.Grid {
	g := api.Grid{Height: len(texts)}
	for _, text := range texts {
		g.Rows = append(g.Rows, rowOf(text, a))
	}
	g.Width = len(g.Rows[0])
	return g
}

// texts returns the texts of rows, divided by bars. A blank cell for another color than the default one is #.
func texts(rows [][]api.Cell) string {
	parts := []string{}
	for _, l := range rows {
		text := ""
		for _, c := range l {
			if c.Text == " " && c.Attr.Back != -1 {
				c.Text = "#"
			}
			text += c.Text
		}
		parts = append(parts, text)
	}
	return strings.Join(parts, "|")
}

// isZero reports whether a grid is the zero grid.
func isZero(g api.Grid) bool {
	return g.Width == 0 && g.Height == 0 && len(g.Rows) == 0
}

// copied returns a copy of a grid.
func copied(g api.Grid) api.Grid {
	rows := [][]api.Cell{}
	for _, l := range g.Rows {
		rows = append(rows, slices.Clone(l))
	}
	return api.Grid{Width: g.Width, Height: g.Height, Rows: rows}
}

// A memory holds a grid with other rows and cells around its own ones.
type memory struct {
	cells []api.Cell
	rows  [][]api.Cell
}

// other is a cell that is not part of a grid.
var other = api.Cell{Text: "other", Width: 9, Attr: red}

// memoryOf puts rows into a memory, and returns them there.
func memoryOf(rows [][]api.Cell) (memory, [][]api.Cell) {
	m := memory{cells: []api.Cell{other}}
	for _, l := range rows {
		m.cells = append(append(m.cells, l...), other)
	}
	m.rows = append(m.rows, m.cells[:1])
	next := 1
	for _, l := range rows {
		m.rows = append(m.rows, m.cells[next:next+len(l)])
		next += len(l) + 1
	}
	m.rows = append(m.rows, m.cells[:1])
	return m, m.rows[1 : 1+len(rows)]
}

// copied returns a copy of a memory.
func (m memory) copied() memory {
	return memory{cells: slices.Clone(m.cells), rows: copied(api.Grid{Rows: m.rows}).Rows}
}

// equal reports whether two memories have the same contents.
func (m memory) equal(n memory) bool {
	return slices.Equal(m.cells, n.cells) && sameRows(m.rows, n.rows)
}

// overwrite writes a cell of its own into all of the memory of each row, and reports whether a row changes with another one.
func overwrite(lists ...[][]api.Cell) bool {
	rows := slices.Concat(lists...)
	mark := func(i int) api.Cell { return api.Cell{Text: "written", Width: i} }
	for i, l := range rows {
		written := l[:cap(l)]
		for k := range written {
			written[k] = mark(i)
		}
	}
	for i, l := range rows {
		if slices.ContainsFunc(l, func(c api.Cell) bool { return c != mark(i) }) {
			return true
		}
	}
	for _, list := range lists {
		clear(list[:cap(list)])
	}
	return false
}

// A result is what a function of the package returns.
type result struct {
	grid api.Grid
	gone [][]api.Cell
	e    api.Errno
}

// guarded calls a function with a grid and a row that have other cells around them. It reports if the function changes one of them, or if writing to the result does.
func guarded(t *testing.T, g api.Grid, l []api.Cell, call func(g api.Grid, l []api.Cell) result) result {
	t.Helper()
	m, rows := memoryOf(g.Rows)
	n, row := memoryOf([][]api.Cell{l})
	before, rowBefore := m.copied(), n.copied()
	r := call(api.Grid{Width: g.Width, Height: g.Height, Rows: rows}, row[0])
	if !m.equal(before) || !n.equal(rowBefore) {
		t.Fatalf("an argument was changed: %v, %v", g, l)
	}
	kept := result{grid: copied(r.grid), gone: copied(api.Grid{Rows: r.gone}).Rows, e: r.e}
	if overwrite(r.grid.Rows, r.gone) {
		t.Fatalf("rows of a result share memory: %v, %v", g, l)
	}
	if !m.equal(before) || !n.equal(rowBefore) {
		t.Fatalf("a result shares memory with an argument: %v, %v", g, l)
	}
	return kept
}

// compare reports a result that is not the expected one, whatever is expected with an error.
func compare(t *testing.T, what string, got, want result) {
	t.Helper()
	if got.e != want.e || !same(got.grid, want.grid) || !sameRows(got.gone, want.gone) {
		t.Fatalf("%s: %v and %v, error %d, want %v and %v, error %d", what, got.grid, got.gone, got.e, want.grid, want.gone, want.e)
	}
	if got.e != api.OK && (!isZero(got.grid) || len(got.gone) != 0) {
		t.Fatalf("%s: error %d with %v and %v", what, got.e, got.grid, got.gone)
	}
}

// compareScroll compares Scroll with the chapter.
func compareScroll(t *testing.T, g api.Grid, top, bottom, by int, a api.Attr) {
	t.Helper()
	got := guarded(t, g, nil, func(g api.Grid, _ []api.Cell) (r result) {
		r.grid, r.gone, r.e = Scroll(g, top, bottom, by, a)
		return r
	})
	var want result
	want.grid, want.gone, want.e = chapterScroll(g, top, bottom, by, a)
	compare(t, "Scroll", got, want)
}

// compareSet compares Set with the chapter.
func compareSet(t *testing.T, g api.Grid, row int, l []api.Cell) {
	t.Helper()
	got := guarded(t, g, l, func(g api.Grid, l []api.Cell) (r result) {
		r.grid, r.e = Set(g, row, l)
		return r
	})
	var want result
	want.grid, want.e = chapterSet(g, row, l)
	compare(t, "Set", got, want)
}

// compareClear compares Clear with the chapter.
func compareClear(t *testing.T, g api.Grid, from, to int, a api.Attr) {
	t.Helper()
	got := guarded(t, g, nil, func(g api.Grid, _ []api.Cell) (r result) {
		r.grid, r.e = Clear(g, from, to, a)
		return r
	})
	var want result
	want.grid, want.e = chapterClear(g, from, to, a)
	compare(t, "Clear", got, want)
}

// compareResize compares Resize with the chapter.
func compareResize(t *testing.T, g api.Grid, width, height int) {
	t.Helper()
	got := guarded(t, g, nil, func(g api.Grid, _ []api.Cell) (r result) {
		r.grid, r.e = Resize(g, width, height)
		return r
	})
	var want result
	want.grid, want.e = chapterResize(g, width, height)
	compare(t, "Resize", got, want)
}

// compareNew compares New with the chapter.
func compareNew(t *testing.T, width, height int) {
	t.Helper()
	got := guarded(t, api.Grid{}, nil, func(api.Grid, []api.Cell) (r result) {
		r.grid, r.e = New(width, height)
		return r
	})
	var want result
	want.grid, want.e = chapterNew(width, height)
	compare(t, "New", got, want)
}

// P8.1: the sizes at the ends of the ranges, each with its error alone.
func TestNew(t *testing.T) {
	for _, c := range []struct {
		width, height int
		e             api.Errno
	}{
		{1, 1, api.OK}, {132, 60, api.OK}, {1, 60, api.OK}, {132, 1, api.OK}, {80, 24, api.OK}, {60, 60, api.OK},
		{0, 1, api.ErrRange}, {133, 1, api.ErrRange}, {1, 0, api.ErrRange}, {1, 61, api.ErrRange}, {132, 61, api.ErrRange}, {133, 60, api.ErrRange},
		{-1, 1, api.ErrRange}, {1, -1, api.ErrRange}, {0, 0, api.ErrRange}, {-1, -1, api.ErrRange}, {60, 132, api.ErrRange},
		{math.MaxInt, 1, api.ErrRange}, {1, math.MaxInt, api.ErrRange}, {math.MinInt, 1, api.ErrRange}, {1, math.MinInt, api.ErrRange},
		{1<<32 + 1, 1, api.ErrRange}, {1, 1<<32 + 1, api.ErrRange}, {math.MaxInt, math.MinInt, api.ErrRange},
	} {
		g, e := New(c.width, c.height)
		if e != c.e {
			t.Errorf("New(%d, %d): error %d, want %d", c.width, c.height, e, c.e)
		}
		if e == api.OK {
			blank := slices.Repeat([]api.Cell{cell(" ", 1, plain)}, c.width)
			if g.Width != c.width || g.Height != c.height || !sameRows(g.Rows, slices.Repeat([][]api.Cell{blank}, c.height)) {
				t.Errorf("New(%d, %d) = %v", c.width, c.height, g)
			}
		} else if !isZero(g) {
			t.Errorf("New(%d, %d) = %v with the error %d", c.width, c.height, g, e)
		}
	}
}

// P8.1: all widths and all heights.
func TestNewOfAllSizes(t *testing.T) {
	for _, width := range numbersAround(1, 132) {
		for _, height := range append([]int{0, 1, 2, 59, 60, 61}, outside...) {
			compareNew(t, width, height)
		}
	}
	for _, height := range numbersAround(1, 60) {
		for _, width := range append([]int{0, 1, 2, 131, 132, 133}, outside...) {
			compareNew(t, width, height)
		}
	}
}

// P8.1: a new grid is new memory.
func TestNewIsNew(t *testing.T) {
	first, _ := New(2, 2)
	second, _ := New(2, 2)
	first.Rows[0][0].Text, first.Rows[1] = "x", nil
	if third, _ := New(2, 2); texts(second.Rows) != "  |  " || texts(third.Rows) != "  |  " {
		t.Errorf("a grid was changed with another one: %v, %v", second, third)
	}
}

// A defect is a change that makes a grid with the rows ab, 漢, cd, ef improper, and the error of Check.
type defect struct {
	name   string
	change func(g *api.Grid)
	e      api.Errno
}

// grid returns the grid with a defect.
func (d defect) grid() api.Grid {
	g := gridFrom(red, "ab", "\u6F22", "cd", "ef")
	d.change(&g)
	return g
}

// defects are grids that violate each condition, and several ones.
var defects = []defect{
	{"the zero grid", func(g *api.Grid) { *g = api.Grid{} }, api.ErrRange},
	{"rows alone", func(g *api.Grid) { g.Width, g.Height = 0, 0 }, api.ErrRange},
	{"width 0", func(g *api.Grid) { g.Width = 0 }, api.ErrRange},
	{"width -1", func(g *api.Grid) { g.Width = -1 }, api.ErrRange},
	{"width 133", func(g *api.Grid) { g.Width = 133 }, api.ErrRange},
	{"a huge width", func(g *api.Grid) { g.Width = math.MaxInt }, api.ErrRange},
	{"the least width", func(g *api.Grid) { g.Width = math.MinInt }, api.ErrRange},
	{"height 0", func(g *api.Grid) { g.Height = 0 }, api.ErrRange},
	{"height 0 without rows", func(g *api.Grid) { g.Height, g.Rows = 0, nil }, api.ErrRange},
	{"height -1", func(g *api.Grid) { g.Height = -1 }, api.ErrRange},
	{"height 61", func(g *api.Grid) { g.Height = 61 }, api.ErrRange},
	{"a huge height", func(g *api.Grid) { g.Height = math.MaxInt }, api.ErrRange},
	{"the least height", func(g *api.Grid) { g.Height = math.MinInt }, api.ErrRange},
	{"61 rows", func(g *api.Grid) { g.Height, g.Rows = 61, slices.Repeat(g.Rows[:1], 61) }, api.ErrRange},
	{"133 columns", func(g *api.Grid) {
		g.Width, g.Height, g.Rows = 133, 1, [][]api.Cell{slices.Repeat(g.Rows[0][:1], 133)}
	}, api.ErrRange},
	{"0 columns", func(g *api.Grid) { g.Width, g.Height, g.Rows = 0, 1, [][]api.Cell{{}} }, api.ErrRange},
	{"no rows", func(g *api.Grid) { g.Rows = nil }, api.ErrArgument},
	{"one row less", func(g *api.Grid) { g.Rows = g.Rows[:3] }, api.ErrArgument},
	{"one row more", func(g *api.Grid) { g.Rows = append(g.Rows, rowOf("gh", red)) }, api.ErrArgument},
	{"height 60 with 4 rows", func(g *api.Grid) { g.Height = 60 }, api.ErrArgument},
	{"height 1 with 4 rows", func(g *api.Grid) { g.Height = 1 }, api.ErrArgument},
	{"width 0 and no rows", func(g *api.Grid) { g.Width, g.Rows = 0, nil }, api.ErrRange},
	{"height 61 and an empty row", func(g *api.Grid) { g.Height, g.Rows[0] = 61, nil }, api.ErrRange},
	{"a row less, and an empty one", func(g *api.Grid) { g.Rows[0], g.Rows = nil, g.Rows[:3] }, api.ErrArgument},
	{"a row more, and a bad text", func(g *api.Grid) { g.Rows[0][0].Text, g.Rows = "", append(g.Rows, rowOf("gh", red)) }, api.ErrArgument},
	{"another width", func(g *api.Grid) { g.Width = 3 }, api.ErrWidth},
	{"width 132", func(g *api.Grid) { g.Width = 132 }, api.ErrWidth},
	{"an empty row", func(g *api.Grid) { g.Rows[0] = nil }, api.ErrWidth},
	{"an empty last row", func(g *api.Grid) { g.Rows[3] = []api.Cell{} }, api.ErrWidth},
	{"a short row", func(g *api.Grid) { g.Rows[2] = rowOf("c", red) }, api.ErrWidth},
	{"a long row", func(g *api.Grid) { g.Rows[2] = rowOf("cde", red) }, api.ErrWidth},
	{"a row of 133 cells", func(g *api.Grid) { g.Rows[2] = slices.Repeat(g.Rows[2][:1], 133) }, api.ErrWidth},
	{"a long row with a bad text", func(g *api.Grid) { g.Rows[2] = append(rowOf("cd", red), cell("", 1, red)) }, api.ErrWidth},
	{"a bad text", func(g *api.Grid) { g.Rows[2][1].Text = "de" }, api.ErrSyntax},
	{"a bad text in the last row", func(g *api.Grid) { g.Rows[3][1].Text = "\xFF" }, api.ErrSyntax},
	{"a bad width", func(g *api.Grid) { g.Rows[0][0].Width = 3 }, api.ErrWidth},
	{"half a pair", func(g *api.Grid) { g.Rows[1][1] = cell("b", 1, red) }, api.ErrWidth},
	{"a pair with two renditions", func(g *api.Grid) { g.Rows[1][1].Attr = blue }, api.ErrWidth},
	{"a bad text, and then a short row", func(g *api.Grid) { g.Rows[1][0].Text, g.Rows[3] = "", nil }, api.ErrSyntax},
	{"a short row, and then a bad text", func(g *api.Grid) { g.Rows[1], g.Rows[3][0].Text = nil, "" }, api.ErrWidth},
	{"a bad width, and then a bad text", func(g *api.Grid) { g.Rows[0][1].Width, g.Rows[1][0].Text = 0, "" }, api.ErrWidth},
	{"a bad text, and then a bad width", func(g *api.Grid) { g.Rows[0][1].Text, g.Rows[1][0].Width = "", -1 }, api.ErrSyntax},
}

// P8.1: each condition, in the order of the chapter, and the first one of several rows.
func TestCheck(t *testing.T) {
	for _, d := range defects {
		g := d.grid()
		m, rows := memoryOf(g.Rows)
		before := m.copied()
		g.Rows = rows
		if e := Check(g); e != d.e {
			t.Errorf("%s: error %d, want %d", d.name, e, d.e)
		}
		if !m.equal(before) {
			t.Errorf("%s: the grid was changed", d.name)
		}
		if e := chapterCheck(g); e != d.e {
			t.Errorf("%s: the model's error is %d", d.name, e)
		}
	}
	proper := defect{"none", func(*api.Grid) {}, api.OK}.grid()
	if e := Check(proper); e != api.OK {
		t.Errorf("a proper grid: error %d", e)
	}
	eachSmallGrid(4, 4, func(g api.Grid) {
		if e := Check(g); e != api.OK {
			t.Errorf("%v: error %d", g, e)
		}
	})
	eachLargeGrid(func(g api.Grid) {
		if e := Check(g); e != api.OK {
			t.Errorf("%d by %d: error %d", g.Width, g.Height, e)
		}
	})
}

// P8.1: the width, the height, the number of rows and the number of cells vary independently.
func TestCheckSizes(t *testing.T) {
	for _, width := range someNumbers(132) {
		for _, height := range someNumbers(60) {
			for _, rows := range []int{0, 1, 2, 59, 60, 61} {
				for _, cells := range []int{0, 1, 2, 131, 132, 133} {
					row := slices.Repeat([]api.Cell{cell("x", 1, red)}, cells)
					g := api.Grid{Width: width, Height: height, Rows: slices.Repeat([][]api.Cell{row}, rows)}
					if e, want := Check(g), chapterCheck(g); e != want {
						t.Fatalf("width %d, height %d, %d rows of %d cells: error %d, want %d", width, height, rows, cells, e, want)
					}
				}
			}
		}
	}
}

// P8.1: two rows of one grid violate conditions, in all places.
func TestCheckFindsTheFirstRow(t *testing.T) {
	bad := map[api.Errno][]api.Cell{api.ErrSyntax: {cell("a", 1, red), cell("", 1, red)}, api.ErrWidth: rowOf("abc", red)}
	for first := range 6 {
		for second := first + 1; second < 6; second++ {
			for e, l := range bad {
				for f, m := range bad {
					g := gridFrom(red, "ab", "cd", "ef", "gh", "ij", "kl")
					g.Rows[first], g.Rows[second] = l, m
					if got := Check(g); got != e {
						t.Errorf("row %d with the error %d, row %d with %d: error %d", first, e, second, f, got)
					}
				}
			}
		}
	}
}

// P8.1: the examples of the chapter.
func TestExamples(t *testing.T) {
	g := gridFrom(plain, "a", "b", "c")
	up, gone, e := Scroll(g, 0, 3, 1, plain)
	if e != api.OK || texts(gone) != "a" || texts(up.Rows) != "b|c| " {
		t.Errorf("up by 1: %v, %v, error %d", up, gone, e)
	}
	down, gone, e := Scroll(g, 1, 3, -1, plain)
	if e != api.OK || len(gone) != 0 || texts(down.Rows) != "a| |b" {
		t.Errorf("down by 1: %v, %v, error %d", down, gone, e)
	}
}

// P8.1: ranges of one row, of all rows and at both ends, and distances up and down.
func TestScroll(t *testing.T) {
	for _, c := range []struct {
		top, bottom, by int
		want, gone      string
	}{
		{0, 5, 1, "b|c|d|e|#", "a"},
		{0, 5, 2, "c|d|e|#|#", "a|b"},
		{0, 5, 4, "e|#|#|#|#", "a|b|c|d"},
		{0, 5, 5, "#|#|#|#|#", "a|b|c|d|e"},
		{0, 5, 6, "#|#|#|#|#", "a|b|c|d|e"},
		{0, 5, math.MaxInt, "#|#|#|#|#", "a|b|c|d|e"},
		{0, 5, 0, "a|b|c|d|e", ""},
		{0, 5, -1, "#|a|b|c|d", ""},
		{0, 5, -4, "#|#|#|#|a", ""},
		{0, 5, -5, "#|#|#|#|#", ""},
		{0, 5, -6, "#|#|#|#|#", ""},
		{0, 5, math.MinInt, "#|#|#|#|#", ""},
		{0, 5, -math.MaxInt, "#|#|#|#|#", ""},
		{1, 4, 1, "a|c|d|#|e", "b"},
		{1, 4, 2, "a|d|#|#|e", "b|c"},
		{1, 4, 3, "a|#|#|#|e", "b|c|d"},
		{1, 4, 4, "a|#|#|#|e", "b|c|d"},
		{1, 4, 0, "a|b|c|d|e", ""},
		{1, 4, -1, "a|#|b|c|e", ""},
		{1, 4, -2, "a|#|#|b|e", ""},
		{1, 4, -3, "a|#|#|#|e", ""},
		{1, 4, -4, "a|#|#|#|e", ""},
		{1, 4, math.MaxInt, "a|#|#|#|e", "b|c|d"},
		{1, 4, math.MinInt, "a|#|#|#|e", ""},
		{0, 2, 1, "b|#|c|d|e", "a"},
		{0, 2, -1, "#|a|c|d|e", ""},
		{3, 5, 1, "a|b|c|e|#", "d"},
		{3, 5, -1, "a|b|c|#|d", ""},
		{0, 1, 1, "#|b|c|d|e", "a"},
		{0, 1, -1, "#|b|c|d|e", ""},
		{0, 1, 0, "a|b|c|d|e", ""},
		{4, 5, 1, "a|b|c|d|#", "e"},
		{4, 5, -1, "a|b|c|d|#", ""},
		{4, 5, 1 << 32, "a|b|c|d|#", "e"},
		{2, 3, -1 << 32, "a|b|#|d|e", ""},
	} {
		g, gone, e := Scroll(gridFrom(plain, "a", "b", "c", "d", "e"), c.top, c.bottom, c.by, blue)
		if e != api.OK || texts(g.Rows) != c.want || texts(gone) != c.gone || g.Width != 1 || g.Height != 5 {
			t.Errorf("Scroll from %d to %d by %d: %s, %s, error %d, want %s, %s", c.top, c.bottom, c.by, texts(g.Rows), texts(gone), e, c.want, c.gone)
		}
	}
}

// P8.1: ranges that are empty, reversed, or out of the grid on a side.
func TestScrollRange(t *testing.T) {
	for _, c := range [][2]int{
		{0, 0}, {1, 1}, {3, 3}, {2, 1}, {3, 0}, {-1, 1}, {-1, 3}, {-1, 0}, {0, 4}, {2, 4}, {3, 4}, {4, 4}, {4, 5}, {-1, 4}, {-2, -1},
		{math.MinInt, 3}, {0, math.MaxInt}, {math.MinInt, math.MaxInt}, {math.MaxInt, math.MinInt}, {math.MaxInt - 1, math.MaxInt}, {0, 60},
	} {
		for _, by := range []int{0, 1, -1, math.MaxInt, math.MinInt} {
			g, gone, e := Scroll(gridFrom(red, "a", "b", "c"), c[0], c[1], by, blue)
			if e != api.ErrRange || !isZero(g) || len(gone) != 0 {
				t.Errorf("Scroll from %d to %d by %d: %v, %v, error %d", c[0], c[1], by, g, gone, e)
			}
		}
	}
}

// P8.1: a new row has the background of the rendition alone, in each column.
func TestBlankRows(t *testing.T) {
	for _, a := range changedAttrs {
		blank := cell(" ", 1, api.Attr{Fore: -1, Back: a.Back})
		want := []api.Cell{blank, blank, blank}
		g := gridFrom(red, "a\u6F22", "bcd")
		up, _, _ := Scroll(g, 0, 2, 1, a)
		down, _, _ := Scroll(g, 0, 2, -1, a)
		cleared, _ := Clear(g, 1, 2, a)
		for name, l := range map[string][][]api.Cell{"up": up.Rows[1:], "down": down.Rows[:1], "cleared": cleared.Rows[1:]} {
			if !sameRows(l, [][]api.Cell{want}) {
				t.Errorf("%s, with %v: the blank row is %v", name, a, l)
			}
		}
	}
}

// P8.1: all ranges and distances in and around those of small grids.
func TestScrollOfSmallGrids(t *testing.T) {
	eachSmallGrid(3, 5, func(g api.Grid) {
		numbers := numbersAround(0, g.Height)
		for _, top := range numbers {
			for _, bottom := range numbers {
				for _, by := range numbersAround(-g.Height, g.Height) {
					compareScroll(t, g, top, bottom, by, changedAttrs[(top&1)<<1|bottom&1])
				}
			}
		}
	})
}

// P8.1: some ranges and distances of large grids.
func TestScrollOfLargeGrids(t *testing.T) {
	eachLargeGrid(func(g api.Grid) {
		for _, top := range []int{-1, 0, g.Height / 2, g.Height - 1} {
			for _, bottom := range []int{1, g.Height / 2, g.Height - 1, g.Height, g.Height + 1} {
				for _, by := range []int{math.MinInt, -g.Height, -7, 0, 1, g.Height - 1, 61} {
					compareScroll(t, g, top, bottom, by, blue)
				}
			}
		}
	})
}

// P8.1: each row in turn, with rows that are proper and of the width, and others.
func TestSet(t *testing.T) {
	g := gridFrom(plain, "ab", "\u6F22", "ef")
	long, bad := slices.Repeat(rowOf("x", red), 133), []api.Cell{cell("x", 1, red), cell("", 1, red)}
	for _, c := range []struct {
		name string
		row  int
		l    []api.Cell
		want string
		e    api.Errno
	}{
		{"the first one", 0, rowOf("xy", red), "xy|\u6F22|ef", api.OK},
		{"the middle one", 1, rowOf("xy", red), "ab|xy|ef", api.OK},
		{"the last one", 2, rowOf("xy", red), "ab|\u6F22|xy", api.OK},
		{"a wide one", 2, rowOf("\u5B57", red), "ab|\u6F22|\u5B57", api.OK},
		{"the row itself", 1, g.Rows[1], "ab|\u6F22|ef", api.OK},
		{"another row of the grid", 0, g.Rows[2], "ef|\u6F22|ef", api.OK},
		{"above", -1, rowOf("xy", red), "", api.ErrRange},
		{"below", 3, rowOf("xy", red), "", api.ErrRange},
		{"far above", math.MinInt, rowOf("xy", red), "", api.ErrRange},
		{"far below", math.MaxInt, rowOf("xy", red), "", api.ErrRange},
		{"beyond 32 bits", 1 << 32, rowOf("xy", red), "", api.ErrRange},
		{"below, no cells", 3, nil, "", api.ErrRange},
		{"above, a bad text", -1, bad, "", api.ErrRange},
		{"below, another width", 3, rowOf("x", red), "", api.ErrRange},
		{"nil", 0, nil, "", api.ErrLimit},
		{"no cells", 0, []api.Cell{}, "", api.ErrLimit},
		{"133 cells", 0, long, "", api.ErrLimit},
		{"short", 0, rowOf("x", red), "", api.ErrWidth},
		{"long", 0, rowOf("xyz", red), "", api.ErrWidth},
		{"132 cells", 0, long[:132], "", api.ErrWidth},
		{"a bad text", 0, bad, "", api.ErrSyntax},
		{"short with a bad text", 0, bad[1:], "", api.ErrSyntax},
		{"long with a bad text", 0, slices.Concat(bad, bad), "", api.ErrSyntax},
		{"half a pair", 0, []api.Cell{cell("x", 1, red), cell("\u6F22", 2, red)}, "", api.ErrWidth},
		{"the other half of a pair", 0, []api.Cell{cell("", 0, red), cell("x", 1, red)}, "", api.ErrWidth},
		{"a bad width, and then a bad text", 0, []api.Cell{cell("x", 3, red), cell("", 1, red)}, "", api.ErrWidth},
	} {
		got, e := Set(g, c.row, c.l)
		if e != c.e || texts(got.Rows) != strings.ReplaceAll(c.want, " ", "#") {
			t.Errorf("%s: %v, error %d, want %s, error %d", c.name, got, e, c.want, c.e)
		}
		if e == api.OK && !slices.Equal(got.Rows[c.row], c.l) {
			t.Errorf("%s: the row is %v, want %v", c.name, got.Rows[c.row], c.l)
		}
		if e != api.OK && !isZero(got) {
			t.Errorf("%s: %v with the error %d", c.name, got, e)
		}
		compareSet(t, g, c.row, c.l)
	}
}

// P8.1: all rows of small and large grids, with rows of widths around the grid's.
func TestSetOfManyGrids(t *testing.T) {
	random := rand.New(rand.NewSource(3))
	try := func(g api.Grid, rows []int) {
		for _, row := range rows {
			for width := max(0, g.Width-2); width <= g.Width+2; width++ {
				compareSet(t, g, row, shapedRow(99, width, func(int) bool { return random.Intn(2) == 0 }))
			}
		}
	}
	eachSmallGrid(5, 5, func(g api.Grid) { try(g, numbersAround(0, g.Height)) })
	eachLargeGrid(func(g api.Grid) { try(g, someNumbers(g.Height)) })
}

// P8.1: ranges that are empty, of one row, of all rows, and out of range.
func TestClear(t *testing.T) {
	for _, c := range []struct {
		from, to int
		want     string
		e        api.Errno
	}{
		{0, 0, "a|b|c|d", api.OK},
		{2, 2, "a|b|c|d", api.OK},
		{4, 4, "a|b|c|d", api.OK},
		{0, 1, "#|b|c|d", api.OK},
		{1, 2, "a|#|c|d", api.OK},
		{3, 4, "a|b|c|#", api.OK},
		{1, 3, "a|#|#|d", api.OK},
		{0, 3, "#|#|#|d", api.OK},
		{1, 4, "a|#|#|#", api.OK},
		{0, 4, "#|#|#|#", api.OK},
		{-1, 2, "", api.ErrRange},
		{-1, -1, "", api.ErrRange},
		{0, 5, "", api.ErrRange},
		{4, 5, "", api.ErrRange},
		{5, 5, "", api.ErrRange},
		{2, 1, "", api.ErrRange},
		{4, 0, "", api.ErrRange},
		{0, -1, "", api.ErrRange},
		{math.MinInt, 4, "", api.ErrRange},
		{0, math.MaxInt, "", api.ErrRange},
		{math.MinInt, math.MaxInt, "", api.ErrRange},
		{math.MaxInt, math.MinInt, "", api.ErrRange},
		{math.MaxInt, math.MaxInt, "", api.ErrRange},
	} {
		g, e := Clear(gridFrom(plain, "a", "b", "c", "d"), c.from, c.to, blue)
		if e != c.e || texts(g.Rows) != c.want {
			t.Errorf("Clear from %d to %d: %s, error %d, want %s, error %d", c.from, c.to, texts(g.Rows), e, c.want, c.e)
		}
		if e != api.OK && !isZero(g) {
			t.Errorf("Clear from %d to %d: %v with the error %d", c.from, c.to, g, e)
		}
	}
}

// P8.1: all ranges of small grids, and some of large ones.
func TestClearOfManyGrids(t *testing.T) {
	try := func(g api.Grid, numbers []int) {
		for _, from := range numbers {
			for _, to := range numbers {
				compareClear(t, g, from, to, changedAttrs[(from&1)<<1|to&1])
			}
		}
	}
	eachSmallGrid(4, 6, func(g api.Grid) { try(g, numbersAround(0, g.Height)) })
	eachLargeGrid(func(g api.Grid) { try(g, someNumbers(g.Height)) })
}

// P8.1: sizes that cut, keep and extend rows and columns.
func TestResize(t *testing.T) {
	red := gridFrom(red, "ab\u6F22c", "\u6F22\u5B57d", "efghi")
	for _, c := range []struct {
		width, height int
		want          string
		e             api.Errno
	}{
		{5, 3, "ab\u6F22c|\u6F22\u5B57d|efghi", api.OK},
		{5, 2, "ab\u6F22c|\u6F22\u5B57d", api.OK},
		{5, 1, "ab\u6F22c", api.OK},
		{5, 4, "ab\u6F22c|\u6F22\u5B57d|efghi|     ", api.OK},
		{6, 3, "ab\u6F22c |\u6F22\u5B57d |efghi ", api.OK},
		{7, 5, "ab\u6F22c  |\u6F22\u5B57d  |efghi  |       |       ", api.OK},
		{6, 2, "ab\u6F22c |\u6F22\u5B57d ", api.OK},
		{4, 3, "ab\u6F22|\u6F22\u5B57|efgh", api.OK},
		{3, 3, "ab#|\u6F22#|efg", api.OK},
		{2, 3, "ab|\u6F22|ef", api.OK},
		{1, 3, "a|#|e", api.OK},
		{1, 1, "a", api.OK},
		{1, 4, "a|#|e| ", api.OK},
		{0, 3, "", api.ErrRange},
		{133, 3, "", api.ErrRange},
		{5, 0, "", api.ErrRange},
		{5, 61, "", api.ErrRange},
		{-1, 3, "", api.ErrRange},
		{5, -1, "", api.ErrRange},
		{0, 0, "", api.ErrRange},
		{math.MaxInt, 3, "", api.ErrRange},
		{5, math.MaxInt, "", api.ErrRange},
		{math.MinInt, 3, "", api.ErrRange},
		{5, math.MinInt, "", api.ErrRange},
		{1<<32 + 5, 3, "", api.ErrRange},
		{5, 1<<32 + 3, "", api.ErrRange},
	} {
		g, e := Resize(red, c.width, c.height)
		if e != c.e || texts(g.Rows) != c.want {
			t.Errorf("Resize to %d by %d: %q, error %d, want %q, error %d", c.width, c.height, texts(g.Rows), e, c.want, c.e)
		}
		if e == api.OK && (g.Width != c.width || g.Height != c.height) {
			t.Errorf("Resize to %d by %d: the size is %d by %d", c.width, c.height, g.Width, g.Height)
		}
		if e != api.OK && !isZero(g) {
			t.Errorf("Resize to %d by %d: %v with the error %d", c.width, c.height, g, e)
		}
	}
}

// P8.1: what the renditions are where a pair is cut, where rows are extended, and in the rows that are added.
func TestResizeColors(t *testing.T) {
	g := gridFrom(red, "a\u6F22")
	smaller, _ := Resize(g, 2, 1)
	want := []api.Cell{cell("a", 1, red), cell(" ", 1, api.Attr{Fore: -1, Back: red.Back})}
	if !sameRows(smaller.Rows, [][]api.Cell{want}) {
		t.Errorf("a pair that is cut: %v, want %v", smaller.Rows, want)
	}
	larger, _ := Resize(g, 4, 2)
	blank := cell(" ", 1, plain)
	rows := [][]api.Cell{append(rowOf("a\u6F22", red), blank), {blank, blank, blank, blank}}
	if !sameRows(larger.Rows, rows) {
		t.Errorf("a larger size: %v, want %v", larger.Rows, rows)
	}
}

// P8.1: all sizes in and around those of small grids, and some for large ones.
func TestResizeOfManyGrids(t *testing.T) {
	eachSmallGrid(5, 4, func(g api.Grid) {
		for _, width := range numbersAround(1, 7) {
			for _, height := range numbersAround(1, 6) {
				compareResize(t, g, width, height)
			}
		}
		for _, size := range [][2]int{{132, 60}, {131, 59}, {133, 60}, {132, 61}, {1, 60}, {132, 1}} {
			compareResize(t, g, size[0], size[1])
		}
	})
	eachLargeGrid(func(g api.Grid) {
		for _, width := range someNumbers(132) {
			for _, height := range someNumbers(60) {
				compareResize(t, g, width, height)
			}
		}
	})
}

// P8.1: a grid that is not proper is reported before everything else, whatever its own error is.
func TestImproperGrids(t *testing.T) {
	good, bad := rowOf("xy", red), []api.Cell{cell("", 1, red)}
	for _, d := range defects {
		for _, n := range []int{0, 1, 2, -1, 4, 61, math.MaxInt, math.MinInt} {
			for _, m := range []int{1, 0, 2, 3, -1, 4, 133, math.MaxInt, math.MinInt} {
				g := d.grid()
				results := map[string]result{}
				try := func(name string, call func(g api.Grid, l []api.Cell) result) {
					results[name] = guarded(t, g, bad, call)
				}
				try("Scroll", func(g api.Grid, _ []api.Cell) (r result) {
					r.grid, r.gone, r.e = Scroll(g, n, m, n, blue)
					return r
				})
				try("Set", func(g api.Grid, _ []api.Cell) (r result) {
					r.grid, r.e = Set(g, n, good)
					return r
				})
				try("Set to a bad row", func(g api.Grid, l []api.Cell) (r result) {
					r.grid, r.e = Set(g, m, l)
					return r
				})
				try("Clear", func(g api.Grid, _ []api.Cell) (r result) {
					r.grid, r.e = Clear(g, n, m, blue)
					return r
				})
				try("Resize", func(g api.Grid, _ []api.Cell) (r result) {
					r.grid, r.e = Resize(g, n, m)
					return r
				})
				for name, r := range results {
					if r.e != api.ErrArgument || !isZero(r.grid) || len(r.gone) != 0 {
						t.Errorf("%s, %s with %d and %d: %v, %v, error %d", d.name, name, n, m, r.grid, r.gone, r.e)
					}
				}
			}
		}
	}
}

// P8.1: the rows of a grid may be the same memory, as may the row that is set.
func TestSharedRows(t *testing.T) {
	row := rowOf("ab", plain)
	g := api.Grid{Width: 2, Height: 3, Rows: [][]api.Cell{row, row, row}}
	set, e := Set(g, 1, row)
	if e != api.OK || texts(set.Rows) != "ab|ab|ab" || overwrite(set.Rows) {
		t.Errorf("Set: %v, error %d", set, e)
	}
	scrolled, gone, e := Scroll(g, 0, 2, 1, blue)
	if e != api.OK || texts(scrolled.Rows) != "ab|##|ab" || texts(gone) != "ab" || overwrite(scrolled.Rows, gone) {
		t.Errorf("Scroll: %v, %v, error %d", scrolled, gone, e)
	}
	if cellrow.Text(row) != "ab" {
		t.Errorf("the row was changed: %v", row)
	}
}
