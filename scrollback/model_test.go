package scrollback

import (
	"math"
	"math/rand"
	"slices"
	"strconv"

	"narrator/api"
	"narrator/cellrow"
	"narrator/grid"
)

// chapterLast returns the last n rows of a list as the chapter defines them: those that are followed by fewer than n rows.
func chapterLast(list [][]api.Cell, n int) [][]api.Cell {
	last := [][]api.Cell{}
	for i, l := range list {
		if followed := len(list) - 1 - i; followed < n {
			last = append(last, l)
		}
	}
	return last
}

// chapterPush returns the result of Push as the chapter defines it.
func chapterPush(b, rows [][]api.Cell) [][]api.Cell {
	all := [][]api.Cell{}
	for _, list := range [][][]api.Cell{b, rows} {
		for _, l := range list {
			all = append(all, l)
		}
	}
	return chapterLast(all, 500)
}

// chapterLine returns the result of Line as the chapter defines it, by counting the rows from the newest one on.
func chapterLine(b [][]api.Cell, back int) ([]api.Cell, api.Errno) {
	followed := 0
	for i := len(b) - 1; i >= 0; i-- {
		if followed == back {
			return b[i], api.OK
		}
		followed++
	}
	return nil, api.ErrRange
}

// chapterWindow returns the result of Window as the chapter defines it, by removing rows of the list at both ends.
func chapterWindow(b [][]api.Cell, g api.Grid, back int) (api.Grid, api.Errno) {
	if grid.Check(g) != api.OK {
		return api.Grid{}, api.ErrArgument
	}
	if back < 0 || back > len(b) {
		return api.Grid{}, api.ErrRange
	}
	list, old := [][]api.Cell{}, []bool{}
	for _, l := range b {
		list, old = append(list, l), append(old, true)
	}
	for _, l := range g.Rows {
		list, old = append(list, l), append(old, false)
	}
	for range back {
		list, old = list[:len(list)-1], old[:len(old)-1]
	}
	for len(list) > g.Height {
		list, old = list[1:], old[1:]
	}
	for i, l := range list {
		if !old[i] {
			continue
		}
		if e := cellrow.Check(l); e != api.OK {
			return api.Grid{}, e
		}
		list[i] = cellrow.Fit(l, g.Width)
	}
	return api.Grid{Width: g.Width, Height: g.Height, Rows: list}, api.OK
}

// sameRows reports whether two lists of rows are equal.
func sameRows(a, b [][]api.Cell) bool {
	return slices.EqualFunc(a, b, slices.Equal[[]api.Cell])
}

// same reports whether two grids are equal.
func same(a, b api.Grid) bool {
	return a.Width == b.Width && a.Height == b.Height && sameRows(a.Rows, b.Rows)
}

// The renditions of the tests: the default one, and one for other cells.
var (
	plain = api.Attr{Fore: -1, Back: -1}
	red   = api.Attr{Fore: 7, Back: 1, Flags: api.Bold}
)

// cell returns a cell.
func cell(text string, width int, a api.Attr) api.Cell {
	return api.Cell{Text: text, Width: width, Attr: a}
}

// rowOf returns the row of the characters of a text, of which those from U+3000 on are wide, all with the same rendition.
func rowOf(text string, a api.Attr) []api.Cell {
	l := []api.Cell{}
	for _, r := range text {
		if r >= 0x3000 {
			l = append(l, cell(string(r), 2, a), cell("", 0, a))
			continue
		}
		l = append(l, cell(string(r), 1, a))
	}
	return l
}

// rowsOf returns rows of characters, all with the same rendition.
func rowsOf(a api.Attr, texts ...string) [][]api.Cell {
	rows := [][]api.Cell{}
	for _, text := range texts {
		rows = append(rows, rowOf(text, a))
	}
	return rows
}

// gridOf returns the grid of rows that have the same number of cells.
func gridOf(rows [][]api.Cell) api.Grid {
	return api.Grid{Width: len(rows[0]), Height: len(rows), Rows: rows}
}

// An improperRow is a row that is not proper, and the error of layer 7 for it.
type improperRow struct {
	name  string
	cells []api.Cell
	e     api.Errno
}

// improperRows returns rows that violate each condition of layer 7, and several ones.
func improperRows() []improperRow {
	long := slices.Repeat(rowOf("x", red), 133)
	return []improperRow{
		{"nil", nil, api.ErrLimit},
		{"no cells", []api.Cell{}, api.ErrLimit},
		{"133 cells", long, api.ErrLimit},
		{"133 cells with a bad text", append(slices.Clone(long[:132]), cell("", 1, red)), api.ErrLimit},
		{"no text", []api.Cell{cell("", 1, plain)}, api.ErrSyntax},
		{"two clusters", []api.Cell{cell("a", 1, plain), cell("bc", 1, plain)}, api.ErrSyntax},
		{"not UTF-8", []api.Cell{cell("\xFF", 2, red), cell("", 0, red)}, api.ErrSyntax},
		{"a control character", []api.Cell{cell("\n", 1, plain)}, api.ErrSyntax},
		{"the zero cell", []api.Cell{{}}, api.ErrWidth},
		{"a narrow cell with a wide text", []api.Cell{cell("\u6F22", 1, plain)}, api.ErrWidth},
		{"a pair with a narrow text", []api.Cell{cell("a", 2, plain), cell("", 0, plain)}, api.ErrWidth},
		{"a huge width", []api.Cell{cell("a", math.MaxInt, plain)}, api.ErrWidth},
		{"the least width", []api.Cell{cell("a", math.MinInt, plain)}, api.ErrWidth},
		{"half a pair at the end", []api.Cell{cell("a", 1, red), cell("\u6F22", 2, red)}, api.ErrWidth},
		{"the other half of a pair", []api.Cell{cell("", 0, red), cell("x", 1, red)}, api.ErrWidth},
		{"a pair with two renditions", []api.Cell{cell("\u6F22", 2, red), cell("", 0, plain)}, api.ErrWidth},
		{"a bad text, and then a bad width", []api.Cell{cell("", 1, red), cell("x", 3, red)}, api.ErrSyntax},
		{"a bad width, and then a bad text", []api.Cell{cell("x", 3, red), cell("", 1, red)}, api.ErrWidth},
		{"132 cells, and the last one has a bad text", append(slices.Clone(long[:131]), cell("xx", 1, red)), api.ErrSyntax},
	}
}

// anyRows returns n rows that are all different, and many of which are not proper.
func anyRows(name string, n int) [][]api.Cell {
	bad := improperRows()
	rows := [][]api.Cell{}
	for i := range n {
		l := rowOf(name+strconv.Itoa(i), api.Attr{Fore: i, Back: -i, Flags: 3 * i})
		if i%2 == 1 {
			l = append(l, bad[i/2%len(bad)].cells...)
		}
		rows = append(rows, l)
	}
	return rows
}

// The clusters of the tests' proper rows.
var (
	narrowTexts = []string{"a", "e\u0301", "b", "\uFFFD", " ", "d", "~", "e\u0300\u0301\u0302"}
	wideTexts   = []string{"\u6F22", "\u5B57", "\U0001F600\uFE0F", "\u6F22\u0301"}
)

// shapedRow returns a proper row with narrow cells and wide pairs at random. Each cluster has a rendition of its own; some of them are not proper, which no chapter requires of a cell.
func shapedRow(width int, random *rand.Rand) []api.Cell {
	l := []api.Cell{}
	for len(l) < width {
		a := api.Attr{Fore: random.Intn(300) - 9, Back: random.Intn(300) - 9, Flags: random.Intn(300) - 9}
		if len(l)+1 < width && random.Intn(2) == 0 {
			l = append(l, cell(wideTexts[random.Intn(len(wideTexts))], 2, a), cell("", 0, a))
			continue
		}
		l = append(l, cell(narrowTexts[random.Intn(len(narrowTexts))], 1, a))
	}
	return l
}

// shapedGrid returns a grid of rows with narrow cells and wide pairs at random.
func shapedGrid(width, height int, random *rand.Rand) api.Grid {
	rows := [][]api.Cell{}
	for range height {
		rows = append(rows, shapedRow(width, random))
	}
	return gridOf(rows)
}

// shapedBack returns a scrollback of n proper rows of the widths around one, and of any others.
func shapedBack(n, width int, random *rand.Rand) [][]api.Cell {
	rows := [][]api.Cell{}
	for range n {
		w := width - 2 + random.Intn(5)
		if w < 1 || w > 132 || random.Intn(8) == 0 {
			w = 1 + random.Intn(132)
		}
		rows = append(rows, shapedRow(w, random))
	}
	return rows
}

// spoiled returns a scrollback in which some of the rows are not proper, at random.
func spoiled(b [][]api.Cell, random *rand.Rand) [][]api.Cell {
	bad := improperRows()
	rows := slices.Clone(b)
	for i := range rows {
		if random.Intn(6) == 0 {
			rows[i] = bad[random.Intn(len(bad))].cells
		}
	}
	return rows
}

// numbersAround returns the numbers from two below low to two above high, and huge ones.
func numbersAround(low, high int) []int {
	numbers := []int{math.MinInt, math.MinInt + 1, -1 << 32, -133, math.MaxInt, math.MaxInt - 1, 1 << 32, 1<<32 + 1, 100000}
	for n := low - 2; n <= high+2; n++ {
		numbers = append(numbers, n)
	}
	return numbers
}

// someNumbers returns the numbers at and around both ends from 0 to high, some between them, and huge ones.
func someNumbers(high int) []int {
	numbers := []int{math.MinInt, -1, 0, 1, 2, high / 3, high / 2, high - 2, high - 1, high, high + 1, high + 2, math.MaxInt}
	slices.Sort(numbers)
	return slices.Compact(numbers)
}
