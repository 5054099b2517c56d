package cellrow

import (
	"math/rand"
	"strings"

	"narrator/api"
)

// clusterWidths are the texts in the tests' rows that are clusters, with their widths, so that the program is not compared with itself.
var clusterWidths = map[string]int{
	" ": 1, "a": 1, "b": 1, "c": 1, "d": 1, "x": 1, "~": 1, "\u00A0": 1, "\uFFFD": 1,
	"e\u0301": 1, " \u0301": 1, "e\u0300\u0301\u0302": 1,
	"\u6F22": 2, "\u5B57": 2, "\u3042": 2, "\u6F22\u0301": 2, "\U0001F600\uFE0F": 2, "\u6F22\u0300\u0301\u0302": 2,
}

// noClusters are texts that are not clusters, for each of the errors of chapter 3.
var noClusters = []string{"", "\xFF", "a\xCC", "\xE6\xBC", "ab", "\u6F22\u6F22", "\n", "\u009F", "\u0301", "\u0301a", "a\n", "e\u0300\u0301\u0302\u0303", "\u6F22\u0300\u0301\u0302\u0303"}

// narrowTexts and wideTexts are the clusters of which rows consist.
var (
	narrowTexts = []string{"a", "e\u0301", "b", "\uFFFD", "c", " ", "d", "~", "x", " \u0301", "e\u0300\u0301\u0302", "\u00A0"}
	wideTexts   = []string{"\u6F22", "\u5B57", "\U0001F600\uFE0F", "\u3042", "\u6F22\u0301", "\u6F22\u0300\u0301\u0302"}
)

// chapterBlank returns the chapter's blank cell for a color.
func chapterBlank(color int) api.Cell {
	return api.Cell{Text: " ", Width: 1, Attr: api.Attr{Fore: -1, Back: color, Flags: 0}}
}

// isPair reports whether two cells are a wide pair.
func isPair(first, second api.Cell) bool {
	return first.Width == 2 && clusterWidths[first.Text] == 2 && second.Width == 0 && second.Text == "" && second.Attr == first.Attr
}

// belongs reports whether a cell of a list belongs to a narrow cell or to a wide pair.
func belongs(l []api.Cell, i int) bool {
	isNarrow := l[i].Width == 1 && clusterWidths[l[i].Text] == 1
	isFirst := i+1 < len(l) && isPair(l[i], l[i+1])
	isSecond := i > 0 && isPair(l[i-1], l[i])
	return isNarrow || isFirst || isSecond
}

// chapterCheck returns the result of Check as the chapter defines it.
func chapterCheck(l []api.Cell) api.Errno {
	if len(l) == 0 || len(l) > 132 {
		return api.ErrLimit
	}
	for i, c := range l {
		if belongs(l, i) {
			continue
		}
		if (c.Width == 1 || c.Width == 2) && clusterWidths[c.Text] == 0 {
			return api.ErrSyntax
		}
		return api.ErrWidth
	}
	return api.OK
}

// A board is a row in other terms than those of the program: the cells by their columns. Cells may be moved to columns that the row does not have.
type board map[int]api.Cell

// boardOf returns a row as a board.
func boardOf(l []api.Cell) board {
	b := board{}
	for i, c := range l {
		b[i] = c
	}
	return b
}

// list returns the cells of the columns from 0 to width-1.
func (b board) list(width int) []api.Cell {
	l := []api.Cell{}
	for i := range width {
		l = append(l, b[i])
	}
	return l
}

// fill makes the columns from from to to-1 blank.
func (b board) fill(from, to, color int) {
	for i := from; i < to; i++ {
		b[i] = chapterBlank(color)
	}
}

// blankOwn makes a column blank for its own color.
func (b board) blankOwn(i int) {
	b[i] = chapterBlank(b[i].Attr.Back)
}

// separate is the chapter's definition of separating at a column.
func (b board) separate(c int) {
	if isPair(b[c-1], b[c]) {
		b.blankOwn(c - 1)
		b.blankOwn(c)
	}
}

// clear is the chapter's definition of clearing a column.
func (b board) clear(c int) {
	switch {
	case isPair(b[c], b[c+1]):
		b.blankOwn(c)
		b.blankOwn(c + 1)
	case isPair(b[c-1], b[c]):
		b.blankOwn(c - 1)
		b.blankOwn(c)
	}
}

// moved returns the board with the cells from col on moved by a number of columns to the right.
func (b board) moved(col, by int) board {
	after := board{}
	for i, c := range b {
		if i >= col {
			i += by
		}
		after[i] = c
	}
	return after
}

// chapterError returns the first error of Put, Insert, Delete and Erase that does not concern a cluster.
func chapterError(l []api.Cell, inRange bool) api.Errno {
	if chapterCheck(l) != api.OK {
		return api.ErrArgument
	}
	if !inRange {
		return api.ErrRange
	}
	return api.OK
}

// chapterPut returns the result of Put as the chapter defines it.
func chapterPut(l []api.Cell, col int, c string, a api.Attr) ([]api.Cell, api.Errno) {
	if e := chapterError(l, 0 <= col && col <= len(l)-1); e != api.OK {
		return nil, e
	}
	b := boardOf(l)
	switch clusterWidths[c] {
	case 0:
		return nil, api.ErrSyntax
	case 1:
		b.clear(col)
		b[col] = api.Cell{Text: c, Width: 1, Attr: a}
	case 2:
		if col == len(l)-1 {
			return nil, api.ErrWidth
		}
		b.clear(col)
		b.clear(col + 1)
		b[col] = api.Cell{Text: c, Width: 2, Attr: a}
		b[col+1] = api.Cell{Text: "", Width: 0, Attr: a}
	}
	return b.list(len(l)), api.OK
}

// counted returns what the n of Insert and Delete counts as.
func counted(l []api.Cell, col, n int) int {
	if n > len(l)-col {
		return len(l) - col
	}
	return n
}

// chapterInsert returns the result of Insert as the chapter defines it.
func chapterInsert(l []api.Cell, col, n int, a api.Attr) ([]api.Cell, api.Errno) {
	if e := chapterError(l, 0 <= col && col <= len(l)-1); e != api.OK {
		return nil, e
	}
	if n < 1 {
		return l, api.OK
	}
	n = counted(l, col, n)
	b := boardOf(l)
	b.separate(col)
	b = b.moved(col, n)
	b.fill(col, col+n, a.Back)
	if last := len(l) - 1; b[last].Width == 2 {
		b.blankOwn(last)
	}
	return b.list(len(l)), api.OK
}

// chapterDelete returns the result of Delete as the chapter defines it.
func chapterDelete(l []api.Cell, col, n int, a api.Attr) ([]api.Cell, api.Errno) {
	if e := chapterError(l, 0 <= col && col <= len(l)-1); e != api.OK {
		return nil, e
	}
	if n < 1 {
		return l, api.OK
	}
	n = counted(l, col, n)
	b := boardOf(l)
	b.separate(col)
	b.separate(col + n)
	for i := col; i < col+n; i++ {
		delete(b, i)
	}
	b = b.moved(col+n, -n)
	b.fill(len(l)-n, len(l), a.Back)
	return b.list(len(l)), api.OK
}

// chapterErase returns the result of Erase as the chapter defines it.
func chapterErase(l []api.Cell, from, to int, a api.Attr) ([]api.Cell, api.Errno) {
	if e := chapterError(l, 0 <= from && from <= to && to <= len(l)); e != api.OK {
		return nil, e
	}
	if from == to {
		return l, api.OK
	}
	b := boardOf(l)
	b.separate(from)
	b.separate(to)
	b.fill(from, to, a.Back)
	return b.list(len(l)), api.OK
}

// chapterFit returns the result of Fit as the chapter defines it.
func chapterFit(l []api.Cell, width int) []api.Cell {
	if chapterCheck(l) != api.OK || width < 1 || width > 132 {
		return nil
	}
	b := boardOf(l)
	b.fill(len(l), width, -1)
	if width < len(l) && isPair(b[width-1], b[width]) {
		b.blankOwn(width - 1)
	}
	return b.list(width)
}

// chapterText returns the result of Text as the chapter defines it.
func chapterText(l []api.Cell) string {
	texts := []string{}
	for _, c := range l {
		texts = append(texts, c.Text)
	}
	return strings.Join(texts, "")
}

// attrOf returns a rendition of its own for each column, some of which are not proper (the chapter does not restrict them).
func attrOf(col int) api.Attr {
	return api.Attr{Fore: col - 3, Back: 300 - 7*col, Flags: 5*col - 9}
}

// shapedRow returns the row that has a wide pair where a function says so, with a text and a rendition for each column.
func shapedRow(length int, isWide func(col int) bool) []api.Cell {
	l := []api.Cell{}
	for col := 0; col < length; col = len(l) {
		a := attrOf(col)
		if col+1 < length && isWide(col) {
			l = append(l, api.Cell{Text: wideTexts[col%len(wideTexts)], Width: 2, Attr: a}, api.Cell{Attr: a})
			continue
		}
		l = append(l, api.Cell{Text: narrowTexts[col%len(narrowTexts)], Width: 1, Attr: a})
	}
	return l
}

// eachShape calls a function with a row for every sequence of narrow cells and wide pairs with this number of columns.
func eachShape(length int, use func(l []api.Cell)) {
	var grow func(pairs map[int]bool, col int)
	grow = func(pairs map[int]bool, col int) {
		if col >= length {
			use(shapedRow(length, func(col int) bool { return pairs[col] }))
			return
		}
		grow(pairs, col+1)
		if col+1 < length {
			pairs[col] = true
			grow(pairs, col+2)
			delete(pairs, col)
		}
	}
	grow(map[int]bool{}, 0)
}

// eachShortRow calls a function with every shape of up to n columns.
func eachShortRow(n int, use func(l []api.Cell)) {
	for length := 1; length <= n; length++ {
		eachShape(length, use)
	}
}

// eachLongRow calls a function with rows of up to MaxCols columns: narrow cells, wide pairs from each side on, and mixtures.
func eachLongRow(use func(l []api.Cell)) {
	random := rand.New(rand.NewSource(7))
	for _, length := range []int{30, 131, 132} {
		use(shapedRow(length, func(int) bool { return false }))
		use(shapedRow(length, func(int) bool { return true }))
		use(shapedRow(length, func(col int) bool { return col > 0 }))
		for range 3 {
			use(shapedRow(length, func(int) bool { return random.Intn(2) == 0 }))
		}
	}
}
