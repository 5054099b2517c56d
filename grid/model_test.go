package grid

import (
	"math"
	"math/rand"
	"slices"

	"narrator/api"
	"narrator/cellrow"
)

// chapterBlankRow returns the chapter's blank row for a color.
func chapterBlankRow(width, color int) []api.Cell {
	l := []api.Cell{}
	for range width {
		l = append(l, api.Cell{Text: " ", Width: 1, Attr: api.Attr{Fore: -1, Back: color, Flags: 0}})
	}
	return l
}

// isWithin reports whether a number is from low to high.
func isWithin(n, low, high int) bool {
	return low <= n && n <= high
}

// chapterCheck returns the result of Check as the chapter defines it.
func chapterCheck(g api.Grid) api.Errno {
	if !isWithin(g.Width, 1, 132) {
		return api.ErrRange
	}
	if !isWithin(g.Height, 1, 60) {
		return api.ErrRange
	}
	if len(g.Rows) < g.Height || len(g.Rows) > g.Height {
		return api.ErrArgument
	}
	errors := []api.Errno{}
	for i := range g.Rows {
		if len(g.Rows[i]) == g.Width {
			errors = append(errors, cellrow.Check(g.Rows[i]))
		} else {
			errors = append(errors, api.ErrWidth)
		}
	}
	for _, e := range errors {
		if e != api.OK {
			return e
		}
	}
	return api.OK
}

// chapterNew returns the result of New as the chapter defines it.
func chapterNew(width, height int) (api.Grid, api.Errno) {
	if !isWithin(width, 1, 132) || !isWithin(height, 1, 60) {
		return api.Grid{}, api.ErrRange
	}
	s := sheet{}
	s.clear(0, height, width, -1)
	return s.grid(width, height), api.OK
}

// A sheet is a grid in other terms than those of the program: the rows by their numbers.
type sheet map[int][]api.Cell

// sheetOf returns a grid as a sheet.
func sheetOf(g api.Grid) sheet {
	s := sheet{}
	for i, l := range g.Rows {
		s[i] = l
	}
	return s
}

// clear makes the rows from from to to-1 blank.
func (s sheet) clear(from, to, width, color int) {
	for i := from; i < to; i++ {
		s[i] = chapterBlankRow(width, color)
	}
}

// grid returns the rows from 0 to height-1 as a grid.
func (s sheet) grid(width, height int) api.Grid {
	g := api.Grid{Width: width, Height: height}
	for i := range height {
		g.Rows = append(g.Rows, s[i])
	}
	return g
}

// limited returns what a distance counts as in a range of rows.
func limited(by, size int) int {
	if by > size {
		return size
	}
	if by < -size {
		return -size
	}
	return by
}

// chapterScroll returns the result of Scroll as the chapter defines it, by moving each row of the range to its new number.
func chapterScroll(g api.Grid, top, bottom, by int, a api.Attr) (api.Grid, [][]api.Cell, api.Errno) {
	if chapterCheck(g) != api.OK {
		return api.Grid{}, nil, api.ErrArgument
	}
	if !(0 <= top && top < bottom && bottom <= g.Height) {
		return api.Grid{}, nil, api.ErrRange
	}
	by = limited(by, bottom-top)
	s := sheetOf(g)
	s.clear(top, bottom, g.Width, a.Back)
	gone := [][]api.Cell{}
	for i := top; i < bottom; i++ {
		switch to := i - by; {
		case to < top:
			gone = append(gone, g.Rows[i])
		case to < bottom:
			s[to] = g.Rows[i]
		}
	}
	return s.grid(g.Width, g.Height), gone, api.OK
}

// chapterSet returns the result of Set as the chapter defines it.
func chapterSet(g api.Grid, row int, l []api.Cell) (api.Grid, api.Errno) {
	if chapterCheck(g) != api.OK {
		return api.Grid{}, api.ErrArgument
	}
	if !(0 <= row && row < g.Height) {
		return api.Grid{}, api.ErrRange
	}
	if e := cellrow.Check(l); e != api.OK {
		return api.Grid{}, e
	}
	if len(l) != g.Width {
		return api.Grid{}, api.ErrWidth
	}
	s := sheetOf(g)
	s[row] = l
	return s.grid(g.Width, g.Height), api.OK
}

// chapterClear returns the result of Clear as the chapter defines it.
func chapterClear(g api.Grid, from, to int, a api.Attr) (api.Grid, api.Errno) {
	if chapterCheck(g) != api.OK {
		return api.Grid{}, api.ErrArgument
	}
	if !(0 <= from && from <= to && to <= g.Height) {
		return api.Grid{}, api.ErrRange
	}
	s := sheetOf(g)
	s.clear(from, to, g.Width, a.Back)
	return s.grid(g.Width, g.Height), api.OK
}

// chapterResize returns the result of Resize as the chapter defines it.
func chapterResize(g api.Grid, width, height int) (api.Grid, api.Errno) {
	if chapterCheck(g) != api.OK {
		return api.Grid{}, api.ErrArgument
	}
	if !isWithin(width, 1, 132) || !isWithin(height, 1, 60) {
		return api.Grid{}, api.ErrRange
	}
	s := sheet{}
	for i, l := range g.Rows {
		s[i] = cellrow.Fit(l, width)
	}
	s.clear(g.Height, height, width, -1)
	return s.grid(width, height), api.OK
}

// sameRows reports whether two lists of rows are equal.
func sameRows(a, b [][]api.Cell) bool {
	return slices.EqualFunc(a, b, slices.Equal[[]api.Cell])
}

// same reports whether two grids are equal.
func same(a, b api.Grid) bool {
	return a.Width == b.Width && a.Height == b.Height && sameRows(a.Rows, b.Rows)
}

// The clusters of the tests' grids.
var (
	narrowTexts = []string{"a", "e\u0301", "b", "\uFFFD", " ", "d", "~", "e\u0300\u0301\u0302"}
	wideTexts   = []string{"\u6F22", "\u5B57", "\U0001F600\uFE0F", "\u6F22\u0301"}
)

// shapedRow returns a row that has a wide pair where a function says so. Each cluster has a rendition of its own; some of them are not proper, which no chapter requires of a cell.
func shapedRow(number, width int, isWide func(col int) bool) []api.Cell {
	l := []api.Cell{}
	for col := 0; col < width; col = len(l) {
		a := api.Attr{Fore: number - 3, Back: 300 - 150*number + col, Flags: 5*col - 9}
		if col+1 < width && isWide(col) {
			l = append(l, api.Cell{Text: wideTexts[(col+number)%len(wideTexts)], Width: 2, Attr: a}, api.Cell{Attr: a})
			continue
		}
		l = append(l, api.Cell{Text: narrowTexts[(col+number)%len(narrowTexts)], Width: 1, Attr: a})
	}
	return l
}

// shapedGrid returns a grid whose rows differ from each other, with narrow cells and wide pairs at random.
func shapedGrid(width, height int, random *rand.Rand) api.Grid {
	g := api.Grid{Width: width, Height: height}
	for number := range height {
		g.Rows = append(g.Rows, shapedRow(number, width, func(int) bool { return random.Intn(2) == 0 }))
	}
	return g
}

// eachSmallGrid calls a function with grids of all sizes up to one.
func eachSmallGrid(width, height int, use func(g api.Grid)) {
	random := rand.New(rand.NewSource(8))
	for w := 1; w <= width; w++ {
		for h := 1; h <= height; h++ {
			use(shapedGrid(w, h, random))
		}
	}
}

// eachLargeGrid calls a function with grids of the greatest sizes and near them.
func eachLargeGrid(use func(g api.Grid)) {
	random := rand.New(rand.NewSource(9))
	for _, size := range [][2]int{{132, 60}, {131, 59}, {1, 60}, {132, 1}, {80, 24}} {
		use(shapedGrid(size[0], size[1], random))
	}
}

// outside are numbers beyond both ends of every range.
var outside = []int{math.MinInt, math.MinInt + 1, -1 << 32, -133, math.MaxInt, math.MaxInt - 1, 1 << 32, 1000}

// numbersAround returns the numbers from two below low to two above high, and huge ones.
func numbersAround(low, high int) []int {
	numbers := slices.Clone(outside)
	for n := low - 2; n <= high+2; n++ {
		numbers = append(numbers, n)
	}
	return numbers
}

// someNumbers returns the numbers at and around both ends from 0 to high, some between them, and huge ones.
func someNumbers(high int) []int {
	numbers := []int{math.MinInt, -1, 0, 1, 2, high / 3, high / 2, high - 1, high, high + 1, math.MaxInt}
	slices.Sort(numbers)
	return slices.Compact(numbers)
}
