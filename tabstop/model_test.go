package tabstop

import (
	"math"
	"math/rand"
	"slices"
)

// columnsOf returns the columns that have a tab stop, in ascending order.
func columnsOf(l []bool) []int {
	columns := []int{}
	for col, on := range l {
		if on {
			columns = append(columns, col)
		}
	}
	return columns
}

// listOf returns the tab stops of a width that are at some columns.
func listOf(width int, columns ...int) []bool {
	l := make([]bool, width)
	for _, col := range columns {
		l[col] = true
	}
	return l
}

// chapterWidth returns how many columns New and Resize return.
func chapterWidth(width int) int {
	if width < 1 {
		return 0
	}
	if width > 1000 {
		return 1000
	}
	return width
}

// chapterNew returns the result of New as the chapter defines it.
func chapterNew(width int) []bool {
	l := make([]bool, chapterWidth(width))
	for col := 0; col < len(l); col += 8 {
		l[col] = true
	}
	return l
}

// chapterNext returns the result of Next as the chapter defines it.
func chapterNext(l []bool, col int) int {
	after := slices.DeleteFunc(columnsOf(l), func(stop int) bool { return stop <= col })
	switch {
	case len(l) == 0:
		return 0
	case len(after) == 0:
		return len(l) - 1
	}
	return slices.Min(after)
}

// chapterPrevious returns the result of Previous as the chapter defines it.
func chapterPrevious(l []bool, col int) int {
	before := slices.DeleteFunc(columnsOf(l), func(stop int) bool { return stop >= col })
	if len(before) == 0 {
		return 0
	}
	return slices.Max(before)
}

// chapterSet returns the result of Set as the chapter defines it.
func chapterSet(l []bool, col int, on bool) []bool {
	columns := slices.DeleteFunc(columnsOf(l), func(stop int) bool { return stop == col })
	if on && slices.Contains(allColumns(len(l)), col) {
		columns = append(columns, col)
	}
	return listOf(len(l), columns...)
}

// chapterResize returns the result of Resize as the chapter defines it.
func chapterResize(l []bool, width int) []bool {
	resized := []bool{}
	for _, col := range allColumns(chapterWidth(width)) {
		if col < len(l) {
			resized = append(resized, l[col])
		} else {
			resized = append(resized, col%8 == 0)
		}
	}
	return resized
}

// allColumns returns the columns of a width.
func allColumns(width int) []int {
	columns := []int{}
	for col := 0; col < width; col++ {
		columns = append(columns, col)
	}
	return columns
}

// eachShortList calls a function with all tab stops of up to a width.
func eachShortList(width int, use func(l []bool)) {
	for n := 0; n <= width; n++ {
		for bits := 0; bits < 1<<n; bits++ {
			l := make([]bool, n)
			for col := range l {
				l[col] = bits>>col&1 == 1
			}
			use(l)
		}
	}
}

// eachLongList calls a function with tab stops of the widths at the limits and of some others, also beyond the limits: with none, one in every column, the default ones, one at each end, and random ones.
func eachLongList(use func(l []bool)) {
	random := rand.New(rand.NewSource(9))
	for _, width := range []int{15, 16, 17, 20, 80, 132, 133, 999, 1000, 1001, 1500} {
		none := make([]bool, width)
		every := listOf(width, allColumns(width)...)
		usual := make([]bool, width)
		for col := 0; col < width; col += 8 {
			usual[col] = true
		}
		for _, l := range [][]bool{none, every, usual, listOf(width, 0), listOf(width, width-1), listOf(width, 0, width-1)} {
			use(l)
		}
		for _, rare := range []int{2, 9, 100} {
			l := make([]bool, width)
			for col := range l {
				l[col] = random.Intn(rare) == 0
			}
			use(l)
		}
	}
}

// eachList calls a function with all short lists of tab stops and with long ones.
func eachList(use func(l []bool)) {
	eachShortList(9, use)
	eachLongList(use)
}

// hugeNumbers are far beyond all columns and widths on both sides; some of them have a small number as their lower 32 bits.
var hugeNumbers = []int{math.MinInt, math.MinInt + 1, math.MinInt32, -1 << 32, 1<<32 + 3, math.MaxInt32, math.MaxInt - 1, math.MaxInt}

// columnsAround returns all columns of a list, the ones around it, and huge ones.
func columnsAround(l []bool) []int {
	columns := append(allColumns(len(l)), -1000, -9, -8, -2, -1, len(l), len(l)+1, len(l)+8, 5000)
	return append(columns, hugeNumbers...)
}

// widthsAround returns the widths near that of a list, those at the limits, and huge ones.
func widthsAround(l []bool) []int {
	widths := []int{-1001, -8, -1, 0, 1, 2, 7, 8, 9, 15, 16, 17, 20, 132, 992, 993, 999, 1000, 1001, 1002, 5000}
	for by := -2; by <= 2; by++ {
		widths = append(widths, len(l)+by)
	}
	return append(append(widths, len(l)/2, 2*len(l)), hugeNumbers...)
}
