package scrollback

import (
	"math"
	"math/rand"
	"slices"
	"strings"
	"testing"

	"narrator/api"
	"narrator/cellrow"
)

// texts returns the texts of rows, divided by bars. A blank cell for another color than the default one is #.
func texts(rows [][]api.Cell) string {
	parts := []string{}
	for _, l := range rows {
		text := ""
		for _, c := range l {
			if c.Text == " " && c.Attr.Back != -1 {
				c.Text = "#"
			}
			text += c.Text
		}
		parts = append(parts, text)
	}
	return strings.Join(parts, "|")
}

// isZero reports whether a grid is the zero grid.
func isZero(g api.Grid) bool {
	return g.Width == 0 && g.Height == 0 && len(g.Rows) == 0
}

// copied returns copies of rows.
func copied(rows [][]api.Cell) [][]api.Cell {
	copies := [][]api.Cell{}
	for _, l := range rows {
		copies = append(copies, slices.Clone(l))
	}
	return copies
}

// A memory holds lists of rows, with other rows and cells around each of them.
type memory struct {
	cells []api.Cell
	rows  [][]api.Cell
}

// other is a cell that is not part of a list.
var other = api.Cell{Text: "other", Width: 9, Attr: red}

// memoryOf puts two lists into a memory, and returns them there.
func memoryOf(first, second [][]api.Cell) (m memory, a, b [][]api.Cell) {
	all := slices.Concat([][]api.Cell{{other}}, first, [][]api.Cell{{other}}, second, [][]api.Cell{{other}})
	m.cells = []api.Cell{other}
	for _, l := range all {
		m.cells = append(append(m.cells, l...), other)
	}
	next := 1
	for _, l := range all {
		m.rows = append(m.rows, m.cells[next:next+len(l)])
		next += len(l) + 1
	}
	// The lists have room behind them, where appending to one would overwrite the rows of the other one.
	end := 1 + len(first)
	return m, m.rows[1:end], m.rows[end+1 : end+1+len(second)]
}

// copied returns a copy of a memory.
func (m memory) copied() memory {
	return memory{cells: slices.Clone(m.cells), rows: copied(m.rows)}
}

// equal reports whether two memories have the same contents.
func (m memory) equal(n memory) bool {
	return slices.Equal(m.cells, n.cells) && sameRows(m.rows, n.rows)
}

// overwrite writes a cell of its own into all of the memory of each row, and reports whether a row changes with another one.
func overwrite(rows [][]api.Cell) bool {
	mark := func(i int) api.Cell { return api.Cell{Text: "written", Width: i} }
	for i, l := range rows {
		written := l[:cap(l)]
		for k := range written {
			written[k] = mark(i)
		}
	}
	for i, l := range rows {
		if slices.ContainsFunc(l, func(c api.Cell) bool { return c != mark(i) }) {
			return true
		}
	}
	clear(rows[:cap(rows)])
	return false
}

// guarded calls a function with two lists that have other rows and cells around them, and returns its rows. It reports if the function changes one of the lists, or if writing to the result does.
func guarded(t *testing.T, first, second [][]api.Cell, call func(first, second [][]api.Cell) [][]api.Cell) [][]api.Cell {
	t.Helper()
	m, a, b := memoryOf(first, second)
	before := m.copied()
	rows := call(a, b)
	if !m.equal(before) {
		t.Fatalf("an argument was changed: %v, %v", first, second)
	}
	kept := copied(rows)
	if overwrite(rows) {
		t.Fatalf("rows of a result share memory: %v, %v", first, second)
	}
	if !m.equal(before) {
		t.Fatalf("a result shares memory with an argument: %v, %v", first, second)
	}
	return kept
}

// comparePush compares Push with the chapter.
func comparePush(t *testing.T, b, rows [][]api.Cell) {
	t.Helper()
	got := guarded(t, b, rows, Push)
	if want := chapterPush(b, rows); !sameRows(got, want) {
		t.Fatalf("Push of %d rows to %d: %d rows %v, want %d rows %v", len(rows), len(b), len(got), got, len(want), want)
	}
}

// compareLine compares Line with the chapter.
func compareLine(t *testing.T, b [][]api.Cell, back int) {
	t.Helper()
	var e api.Errno
	got := guarded(t, b, nil, func(b, _ [][]api.Cell) [][]api.Cell {
		var l []api.Cell
		l, e = Line(b, back)
		return [][]api.Cell{l}
	})
	want, f := chapterLine(b, back)
	if e != f || !slices.Equal(got[0], want) {
		t.Fatalf("Line %d of %d rows: %v, error %d, want %v, error %d", back, len(b), got[0], e, want, f)
	}
}

// compareWindow compares Window with the chapter, and returns its error.
func compareWindow(t *testing.T, b [][]api.Cell, g api.Grid, back int) api.Errno {
	t.Helper()
	var got api.Grid
	var e api.Errno
	rows := guarded(t, b, g.Rows, func(b, rows [][]api.Cell) [][]api.Cell {
		got, e = Window(b, api.Grid{Width: g.Width, Height: g.Height, Rows: rows}, back)
		return got.Rows
	})
	got.Rows = rows
	want, f := chapterWindow(b, g, back)
	if e != f || !same(got, want) {
		t.Fatalf("Window of %d rows and %v, back by %d: %v, error %d, want %v, error %d", len(b), g, back, got, e, want, f)
	}
	return e
}

// compareTrim compares Trim with the chapter.
func compareTrim(t *testing.T, b [][]api.Cell, most int) {
	t.Helper()
	got := guarded(t, b, nil, func(b, _ [][]api.Cell) [][]api.Cell { return Trim(b, most) })
	if want := chapterLast(b, most); !sameRows(got, want) {
		t.Fatalf("Trim of %d rows to %d: %v, want %v", len(b), most, got, want)
	}
}

// P12.1: the examples of the chapter.
func TestExamples(t *testing.T) {
	b, g := rowsOf(plain, "x", "y"), gridOf(rowsOf(plain, "a", "b"))
	for _, c := range []struct {
		back int
		want string
		e    api.Errno
	}{
		{1, "y|a", api.OK}, {2, "x|y", api.OK}, {3, "", api.ErrRange},
	} {
		w, e := Window(b, g, c.back)
		if e != c.e || texts(w.Rows) != c.want {
			t.Errorf("back by %d: %v, error %d, want %s, error %d", c.back, w, e, c.want, c.e)
		}
	}
}

// P12.1: empty lists, and rows without cells.
func TestPush(t *testing.T) {
	for _, c := range []struct {
		b, rows [][]api.Cell
		want    string
		n       int
	}{
		{nil, nil, "", 0},
		{[][]api.Cell{}, [][]api.Cell{}, "", 0},
		{rowsOf(red, "a", "b"), nil, "a|b", 2},
		{nil, rowsOf(red, "c", "d"), "c|d", 2},
		{rowsOf(red, "a", "b"), rowsOf(red, "c", "d"), "a|b|c|d", 4},
		{rowsOf(red, "a"), rowsOf(red, "\u6F22b", "", "a"), "a|\u6F22b||a", 4},
		{[][]api.Cell{nil}, [][]api.Cell{{}, nil}, "||", 3},
	} {
		got := Push(c.b, c.rows)
		if len(got) != c.n || texts(got) != c.want {
			t.Errorf("Push(%v, %v) = %v, want %s", c.b, c.rows, got, c.want)
		}
		comparePush(t, c.b, c.rows)
	}
}

// P12.1: lists that have together fewer rows than a scrollback, as many, and more; also one of them alone. The rows are proper or not.
func TestPushOfManyRows(t *testing.T) {
	sizes := []int{0, 1, 2, 7, 249, 250, 251, 440, 498, 499, 500, 501, 502, 560, 1000, 1203}
	for _, n := range sizes {
		for _, m := range append([]int{500 - n, 499 - n, 501 - n}, sizes...) {
			if m >= 0 {
				comparePush(t, anyRows("old", n), anyRows("new", m))
			}
		}
	}
}

// P12.1: rows of each kind that is not proper are kept as they are.
func TestPushOfImproperRows(t *testing.T) {
	for _, bad := range improperRows() {
		for _, n := range []int{0, 1, 498, 499, 500} {
			b, rows := slices.Insert(anyRows("old", n), n/2, bad.cells), [][]api.Cell{bad.cells, bad.cells}
			comparePush(t, b, rows)
			if got := Push(b, rows); !slices.Equal(got[len(got)-1], bad.cells) {
				t.Errorf("%s: the newest row is %v", bad.name, got[len(got)-1])
			}
		}
	}
}

// P12.1: the newest row, the oldest one, one between, and those beyond both ends.
func TestLine(t *testing.T) {
	b := [][]api.Cell{rowOf("a", red), nil, rowOf("\u6F22", plain), {cell("", 3, red)}, {}}
	for _, c := range []struct {
		b    [][]api.Cell
		back int
		want []api.Cell
		e    api.Errno
	}{
		{b, 0, nil, api.OK},
		{b, 1, b[3], api.OK},
		{b, 2, b[2], api.OK},
		{b, 3, nil, api.OK},
		{b, 4, b[0], api.OK},
		{b, 5, nil, api.ErrRange},
		{b, 6, nil, api.ErrRange},
		{b, -1, nil, api.ErrRange},
		{b, -5, nil, api.ErrRange},
		{b, math.MaxInt, nil, api.ErrRange},
		{b, math.MinInt, nil, api.ErrRange},
		{b, 1 << 32, nil, api.ErrRange},
		{b, 1<<32 + 1, nil, api.ErrRange},
		{b[:1], 0, b[0], api.OK},
		{b[:1], 1, nil, api.ErrRange},
		{nil, 0, nil, api.ErrRange},
		{nil, 1, nil, api.ErrRange},
		{nil, -1, nil, api.ErrRange},
		{[][]api.Cell{}, math.MinInt, nil, api.ErrRange},
	} {
		l, e := Line(c.b, c.back)
		if e != c.e || !slices.Equal(l, c.want) {
			t.Errorf("Line(%v, %d): %v, error %d, want %v, error %d", c.b, c.back, l, e, c.want, c.e)
		}
		compareLine(t, c.b, c.back)
	}
}

// P12.1: all rows of short scrollbacks, and some of long ones.
func TestLineOfManyRows(t *testing.T) {
	for n := range 12 {
		for _, back := range numbersAround(0, n) {
			compareLine(t, anyRows("old", n), back)
		}
	}
	for _, n := range []int{60, 499, 500, 501, 1203} {
		for _, back := range someNumbers(n) {
			compareLine(t, anyRows("old", n), back)
		}
	}
}

// P12.1: no rows, some of them, and all of them.
func TestTrim(t *testing.T) {
	b := rowsOf(red, "a", "", "\u6F22c", "d")
	for _, c := range []struct {
		b    [][]api.Cell
		most int
		want string
		n    int
	}{
		{b, 0, "", 0},
		{b, 1, "d", 1},
		{b, 2, "\u6F22c|d", 2},
		{b, 3, "|\u6F22c|d", 3},
		{b, 4, "a||\u6F22c|d", 4},
		{b, 5, "a||\u6F22c|d", 4},
		{b, math.MaxInt, "a||\u6F22c|d", 4},
		{b, 1 << 32, "a||\u6F22c|d", 4},
		{b, -1, "", 0},
		{b, -4, "", 0},
		{b, math.MinInt, "", 0},
		{b, 2 - 1<<32, "", 0},
		{[][]api.Cell{nil, {}, nil}, 2, "|", 2},
		{nil, 0, "", 0},
		{nil, 1, "", 0},
		{nil, -1, "", 0},
		{nil, math.MaxInt, "", 0},
		{nil, math.MinInt, "", 0},
	} {
		got := Trim(c.b, c.most)
		if len(got) != c.n || texts(got) != c.want {
			t.Errorf("Trim(%v, %d) = %v, want %s", c.b, c.most, got, c.want)
		}
		compareTrim(t, c.b, c.most)
	}
}

// P12.1: all numbers in and around those of short lists, and some for long ones, which may be longer than a scrollback.
func TestTrimOfManyRows(t *testing.T) {
	for n := range 12 {
		for _, most := range numbersAround(0, n) {
			compareTrim(t, anyRows("old", n), most)
		}
	}
	for _, n := range []int{60, 499, 500, 501, 1203} {
		for _, most := range append(someNumbers(n), 499, 500, 501) {
			compareTrim(t, anyRows("old", n), most)
		}
	}
}

// P12.1: grids with fewer rows than the scrollback and with more, and rows that are wider and narrower than the grid.
func TestWindow(t *testing.T) {
	small, large := gridOf(rowsOf(red, "ab", "\u6F22")), gridOf(rowsOf(red, "abc", "d\u6F22", "\u6F22d", "efg"))
	row, column := gridOf(rowsOf(red, "ab")), gridOf(rowsOf(red, "a", "b"))
	for _, c := range []struct {
		g    api.Grid
		b    [][]api.Cell
		back int
		want string
		e    api.Errno
	}{
		{small, nil, 0, "ab|\u6F22", api.OK},
		{small, nil, 1, "", api.ErrRange},
		{small, nil, -1, "", api.ErrRange},
		{small, rowsOf(red, "vw", "xy", "zz"), 0, "ab|\u6F22", api.OK},
		{small, rowsOf(red, "vw", "xy", "zz"), 1, "zz|ab", api.OK},
		{small, rowsOf(red, "vw", "xy", "zz"), 2, "xy|zz", api.OK},
		{small, rowsOf(red, "vw", "xy", "zz"), 3, "vw|xy", api.OK},
		{small, rowsOf(red, "vw", "xy", "zz"), 4, "", api.ErrRange},
		{small, rowsOf(red, "vw", "xy", "zz"), -1, "", api.ErrRange},
		{small, rowsOf(red, "vw", "xy", "zz"), math.MaxInt, "", api.ErrRange},
		{small, rowsOf(red, "vw", "xy", "zz"), math.MinInt, "", api.ErrRange},
		{small, rowsOf(red, "vw", "xy", "zz"), 1<<32 + 1, "", api.ErrRange},
		{small, rowsOf(red, "vwx", "y"), 2, "vw|y ", api.OK},
		{small, rowsOf(red, "v\u6F22", "\u6F22z"), 2, "v#|\u6F22", api.OK},
		{small, rowsOf(red, "v\u6F22"), 1, "v#|ab", api.OK},
		{large, rowsOf(red, "xyz"), 0, "abc|d\u6F22|\u6F22d|efg", api.OK},
		{large, rowsOf(red, "xyz"), 1, "xyz|abc|d\u6F22|\u6F22d", api.OK},
		{large, rowsOf(red, "\u6F22\u5B57", "z"), 2, "\u6F22#|z  |abc|d\u6F22", api.OK},
		{large, rowsOf(red, "xyz"), 2, "", api.ErrRange},
		{row, rowsOf(red, "x", "yz"), 0, "ab", api.OK},
		{row, rowsOf(red, "x", "yz"), 1, "yz", api.OK},
		{row, rowsOf(red, "x", "yz"), 2, "x ", api.OK},
		{row, rowsOf(red, "x", "yz"), 3, "", api.ErrRange},
		{column, rowsOf(red, "\u6F22", "yz"), 1, "y|a", api.OK},
		{column, rowsOf(red, "\u6F22", "yz"), 2, "#|y", api.OK},
	} {
		w, e := Window(c.b, c.g, c.back)
		if e != c.e || texts(w.Rows) != c.want {
			t.Errorf("Window of %s and %s, back by %d: %q, error %d, want %q, error %d", texts(c.b), texts(c.g.Rows), c.back, texts(w.Rows), e, c.want, c.e)
		}
		if e == api.OK && (w.Width != c.g.Width || w.Height != c.g.Height) {
			t.Errorf("Window of %s and %s, back by %d: the size is %d by %d", texts(c.b), texts(c.g.Rows), c.back, w.Width, w.Height)
		}
		if e != api.OK && !isZero(w) {
			t.Errorf("Window of %s and %s, back by %d: %v with the error %d", texts(c.b), texts(c.g.Rows), c.back, w, e)
		}
		compareWindow(t, c.b, c.g, c.back)
	}
}

// P12.1: what the renditions are where a pair is cut, and where rows are extended.
func TestWindowColors(t *testing.T) {
	w, e := Window(rowsOf(red, "x\u6F22", "y"), gridOf(rowsOf(red, "ab", "cd")), 2)
	blank := cell(" ", 1, api.Attr{Fore: -1, Back: red.Back})
	want := [][]api.Cell{{cell("x", 1, red), blank}, {cell("y", 1, red), cell(" ", 1, plain)}}
	if e != api.OK || !sameRows(w.Rows, want) {
		t.Errorf("%v, error %d, want %v", w, e, want)
	}
}

// P12.1: all positions in and around those of short scrollbacks, with small grids of all sizes. The rows are proper, and then some are not.
func TestWindowOfSmallGrids(t *testing.T) {
	random := rand.New(rand.NewSource(12))
	errors := map[api.Errno]int{}
	for width := 1; width <= 4; width++ {
		for height := 1; height <= 5; height++ {
			for n := range 9 {
				g, b := shapedGrid(width, height, random), shapedBack(n, width, random)
				for _, back := range numbersAround(0, n) {
					errors[compareWindow(t, b, g, back)]++
					for range 5 {
						errors[compareWindow(t, spoiled(b, random), g, back)]++
					}
				}
			}
		}
	}
	for _, e := range []api.Errno{api.OK, api.ErrRange, api.ErrLimit, api.ErrSyntax, api.ErrWidth} {
		if errors[e] < 100 {
			t.Errorf("error %d was compared %d times only", e, errors[e])
		}
	}
}

// P12.1: some positions of long scrollbacks, with large grids.
func TestWindowOfLargeGrids(t *testing.T) {
	random := rand.New(rand.NewSource(13))
	for _, size := range [][2]int{{132, 60}, {131, 59}, {1, 60}, {132, 1}, {1, 1}, {80, 24}} {
		g := shapedGrid(size[0], size[1], random)
		for _, n := range []int{0, 1, 24, 59, 60, 61, 501} {
			b := shapedBack(n, g.Width, random)
			for _, back := range []int{-1, 0, 1, 24, 60, 61, n / 2, n - 1, n, n + 1, math.MaxInt} {
				compareWindow(t, b, g, back)
			}
			compareWindow(t, spoiled(b, random), g, n)
		}
	}
}

// P12.1: a row that is not proper is reported where it is visible, and only there.
func TestImproperRowOfScrollback(t *testing.T) {
	const n, height = 6, 3
	g := gridOf(rowsOf(red, "ab", "cd", "ef"))
	for _, bad := range improperRows() {
		if e := cellrow.Check(bad.cells); e != bad.e {
			t.Errorf("%s: layer 7's error is %d, want %d", bad.name, e, bad.e)
		}
		for at := range n {
			b := rowsOf(red, "u", "vv", "www", "x", "yy", "zzz")
			b[at] = bad.cells
			for back := 0; back <= n; back++ {
				want := api.OK
				if top := n - back; top <= at && at < top+height {
					want = bad.e
				}
				if w, e := Window(b, g, back); e != want || e != api.OK && !isZero(w) {
					t.Errorf("%s as row %d, back by %d: %v, error %d, want %d", bad.name, at, back, w, e, want)
				}
				compareWindow(t, b, g, back)
			}
		}
	}
}

// P12.1: of several rows that are not proper, the error of the first visible one is returned.
func TestImproperRowsOfScrollback(t *testing.T) {
	const n, height = 5, 3
	bad := improperRows()
	for first := range n {
		for second := first + 1; second < n; second++ {
			for i := range bad {
				b := rowsOf(red, "u", "vv", "www", "x", "yy")
				one, two := bad[i], bad[(i+5)%len(bad)]
				b[first], b[second] = one.cells, two.cells
				for back := 0; back <= n; back++ {
					isVisible := func(at int) bool { return n-back <= at && at < n-back+height }
					want := api.OK
					switch {
					case isVisible(first):
						want = one.e
					case isVisible(second):
						want = two.e
					}
					if w, e := Window(b, gridOf(rowsOf(red, "a", "b", "c")), back); e != want || e != api.OK && !isZero(w) {
						t.Errorf("%s as row %d, %s as row %d, back by %d: %v, error %d, want %d", one.name, first, two.name, second, back, w, e, want)
					}
				}
			}
		}
	}
}

// P12.1: a position out of range is reported before rows that are not proper.
func TestRangeBeforeRows(t *testing.T) {
	g := gridOf(rowsOf(red, "a", "b"))
	for _, bad := range improperRows() {
		for n := 1; n <= 4; n++ {
			b := slices.Repeat([][]api.Cell{bad.cells}, n)
			for _, back := range numbersAround(0, n) {
				want := bad.e
				switch {
				case back < 0 || back > n:
					want = api.ErrRange
				case back == 0:
					want = api.OK
				}
				if w, e := Window(b, g, back); e != want || e != api.OK && !isZero(w) {
					t.Errorf("%d rows, %s, back by %d: %v, error %d, want %d", n, bad.name, back, w, e, want)
				}
			}
		}
	}
}

// improperGrids returns grids that violate each condition of layer 8.
func improperGrids() map[string]api.Grid {
	rows := rowsOf(red, "ab", "\u6F22", "cd")
	with := func(row int, l []api.Cell) [][]api.Cell {
		changed := slices.Clone(rows)
		changed[row] = l
		return changed
	}
	grids := map[string]api.Grid{
		"the zero grid":       {},
		"size 0":              {Rows: rows},
		"width 0":             {Height: 3, Rows: rows},
		"width 0, no cells":   {Height: 1, Rows: [][]api.Cell{{}}},
		"width -1":            {Width: -1, Height: 3, Rows: rows},
		"width 133":           {Width: 133, Height: 1, Rows: [][]api.Cell{slices.Repeat(rowOf("x", red), 133)}},
		"a huge width":        {Width: math.MaxInt, Height: 3, Rows: rows},
		"the least width":     {Width: math.MinInt, Height: 3, Rows: rows},
		"height 0":            {Width: 2, Rows: rows},
		"height 0, no rows":   {Width: 2},
		"height -1":           {Width: 2, Height: -1, Rows: rows},
		"height -1, no rows":  {Width: 2, Height: -1},
		"height 61":           {Width: 2, Height: 61, Rows: slices.Repeat(rows[:1], 61)},
		"a huge height":       {Width: 2, Height: math.MaxInt, Rows: rows},
		"the least height":    {Width: 2, Height: math.MinInt, Rows: rows},
		"no rows":             {Width: 2, Height: 3},
		"one row less":        {Width: 2, Height: 3, Rows: rows[:2]},
		"one row more":        {Width: 2, Height: 3, Rows: append(slices.Clone(rows), rows[0])},
		"another width":       {Width: 3, Height: 3, Rows: rows},
		"a short row":         {Width: 2, Height: 3, Rows: with(2, rowOf("c", red))},
		"a long row":          {Width: 2, Height: 3, Rows: with(0, rowOf("abc", red))},
		"an empty last row":   {Width: 2, Height: 3, Rows: with(2, nil)},
		"half a pair":         {Width: 2, Height: 3, Rows: with(1, []api.Cell{rows[1][0], rows[0][0]})},
		"a bad text at first": {Width: 2, Height: 3, Rows: with(0, []api.Cell{cell("", 1, red), rows[0][1]})},
		"a bad text at last":  {Width: 2, Height: 3, Rows: with(2, []api.Cell{rows[0][0], cell("\xFF", 1, red)})},
		"a bad width":         {Width: 2, Height: 3, Rows: with(2, []api.Cell{rows[0][0], cell("x", 3, red)})},
	}
	for _, bad := range improperRows() {
		grids["one row: "+bad.name] = api.Grid{Width: len(bad.cells), Height: 1, Rows: [][]api.Cell{bad.cells}}
	}
	return grids
}

// P12.1: a grid that is not proper is reported before everything else, also where its bad rows are not visible.
func TestImproperGrids(t *testing.T) {
	backs := map[string][][]api.Cell{"none": nil, "one": rowsOf(red, "x"), "many": rowsOf(red, "u", "v", "w", "x", "y")}
	for _, bad := range improperRows() {
		backs[bad.name] = [][]api.Cell{bad.cells, bad.cells}
	}
	for name, g := range improperGrids() {
		for rows, b := range backs {
			for _, back := range numbersAround(0, len(b)) {
				if w, e := Window(b, g, back); e != api.ErrArgument || !isZero(w) {
					t.Errorf("%s, with the scrollback %s, back by %d: %v, error %d", name, rows, back, w, e)
				}
			}
			compareWindow(t, b, g, len(b))
			compareWindow(t, b, g, len(b)+1)
		}
	}
}

// P12.1: the rows of a scrollback and of a grid may be the same memory, and so may the lists.
func TestSharedRows(t *testing.T) {
	row := rowOf("ab", plain)
	rows := [][]api.Cell{row, row, row}
	line, e := Line(rows, 1)
	if e != api.OK || texts([][]api.Cell{line}) != "ab" || overwrite([][]api.Cell{line}) {
		t.Errorf("Line: %v, error %d", line, e)
	}
	window, e := Window(rows, gridOf(rows), 2)
	if e != api.OK || texts(window.Rows) != "ab|ab|ab" || overwrite(window.Rows) {
		t.Errorf("Window: %v, error %d", window, e)
	}
	if pushed := Push(rows[:2], rows); texts(pushed) != "ab|ab|ab|ab|ab" || overwrite(pushed) {
		t.Errorf("Push: %v", pushed)
	}
	if trimmed := Trim(rows, 2); texts(trimmed) != "ab|ab" || overwrite(trimmed) {
		t.Errorf("Trim: %v", trimmed)
	}
	if texts(rows) != "ab|ab|ab" {
		t.Errorf("the rows were changed: %v", rows)
	}
}
