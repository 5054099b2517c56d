package cursor

import (
	"math"
	"math/big"
	"slices"

	"narrator/api"
)

// at returns a cursor without Pending.
func at(row, col int) api.Cursor { return api.Cursor{Row: row, Col: col} }

// pendingAt returns a cursor with Pending.
func pendingAt(row, col int) api.Cursor { return api.Cursor{Row: row, Col: col, Pending: true} }

// add returns the exact sum of numbers, which may be one that is not an int.
func add(numbers ...int) *big.Int {
	sum := big.NewInt(0)
	for _, n := range numbers {
		sum.Add(sum, big.NewInt(int64(n)))
	}
	return sum
}

// subtract returns the exact difference of two numbers, which may be one that is not an int.
func subtract(m, n int) *big.Int {
	return new(big.Int).Sub(big.NewInt(int64(m)), big.NewInt(int64(n)))
}

// chapterLimit returns the number from first to last that is nearest to n.
func chapterLimit(n *big.Int, first, last int) int {
	if n.Cmp(big.NewInt(int64(first))) < 0 {
		return first
	}
	if n.Cmp(big.NewInt(int64(last))) > 0 {
		return last
	}
	return int(n.Int64())
}

// isWithin reports whether a number is from low to high.
func isWithin(n, low, high int) bool {
	return low <= n && n <= high
}

// chapterProper reports whether bounds are proper as the chapter defines it.
func chapterProper(b api.Bounds) bool {
	return isWithin(b.Width, 1, 132) && isWithin(b.Height, 1, 60) && 0 <= b.Top && b.Top < b.Bottom && b.Bottom <= b.Height
}

// chapterInRegion reports whether a row is in the scroll region.
func chapterInRegion(row int, b api.Bounds) bool {
	return isWithin(row, b.Top, b.Bottom-1)
}

// chapterInside reports whether a cursor is inside bounds.
func chapterInside(c api.Cursor, b api.Bounds) bool {
	return isWithin(c.Row, 0, b.Height-1) && isWithin(c.Col, 0, b.Width-1)
}

// chapterStart returns the cursor with the limited row and column with which all functions begin.
func chapterStart(c api.Cursor, b api.Bounds) api.Cursor {
	return at(chapterLimit(add(c.Row), 0, b.Height-1), chapterLimit(add(c.Col), 0, b.Width-1))
}

// chapterClamp returns the result of Clamp as the chapter defines it.
func chapterClamp(c api.Cursor, b api.Bounds) api.Cursor {
	if !chapterProper(b) {
		return api.Cursor{}
	}
	start := chapterStart(c, b)
	if start.Col == b.Width-1 {
		start.Pending = c.Pending
	}
	return start
}

// chapterUp returns the result of Up as the chapter defines it.
func chapterUp(c api.Cursor, n int, b api.Bounds) api.Cursor {
	if !chapterProper(b) {
		return api.Cursor{}
	}
	start := chapterStart(c, b)
	row := subtract(start.Row, n)
	if chapterInRegion(start.Row, b) {
		return at(chapterLimit(row, b.Top, b.Bottom-1), start.Col)
	}
	return at(chapterLimit(row, 0, b.Height-1), start.Col)
}

// chapterRight returns the result of Right as the chapter defines it.
func chapterRight(c api.Cursor, n int, b api.Bounds) api.Cursor {
	if !chapterProper(b) {
		return api.Cursor{}
	}
	start := chapterStart(c, b)
	return at(start.Row, chapterLimit(add(start.Col, n), 0, b.Width-1))
}

// chapterTo returns the result of To as the chapter defines it.
func chapterTo(row, col int, b api.Bounds) api.Cursor {
	if !chapterProper(b) {
		return api.Cursor{}
	}
	newCol := chapterLimit(subtract(col, 1), 0, b.Width-1)
	if b.Origin {
		return at(chapterLimit(add(b.Top, row, -1), b.Top, b.Bottom-1), newCol)
	}
	return at(chapterLimit(subtract(row, 1), 0, b.Height-1), newCol)
}

// chapterFeed returns the results of Feed as the chapter defines them.
func chapterFeed(c api.Cursor, b api.Bounds) (api.Cursor, int) {
	if !chapterProper(b) {
		return api.Cursor{}, 0
	}
	start := chapterStart(c, b)
	switch start.Row {
	case b.Bottom - 1:
		return start, 1
	case b.Height - 1:
		return start, 0
	}
	return at(start.Row+1, start.Col), 0
}

// chapterReverse returns the results of Reverse as the chapter defines them.
func chapterReverse(c api.Cursor, b api.Bounds) (api.Cursor, int) {
	if !chapterProper(b) {
		return api.Cursor{}, 0
	}
	start := chapterStart(c, b)
	switch start.Row {
	case b.Top:
		return start, 1
	case 0:
		return start, 0
	}
	return at(start.Row-1, start.Col), 0
}

// hugeNumbers are far beyond all positions on both sides; some of them have a small number as their lower 32 bits.
var hugeNumbers = []int{math.MinInt, math.MinInt + 1, math.MinInt + 2, -1 << 62, math.MinInt32, -1<<32 + 2, 1<<32 + 3, math.MaxInt32, 1 << 62, math.MaxInt - 1, math.MaxInt}

// numbersAround returns the numbers next to some numbers, and huge ones.
func numbersAround(centers ...int) []int {
	numbers := slices.Clone(hugeNumbers)
	for _, n := range centers {
		numbers = append(numbers, n-2, n-1, n, n+1)
	}
	slices.Sort(numbers)
	return slices.Compact(numbers)
}

// rowsAround returns rows at and around the edges of bounds and of their scroll region.
func rowsAround(b api.Bounds) []int {
	return numbersAround(0, b.Top, b.Bottom, b.Height)
}

// colsAround returns columns at and around the edges of bounds.
func colsAround(b api.Bounds) []int {
	return numbersAround(0, b.Width/2, b.Width)
}

// distancesAround returns numbers of rows and columns up to the edges of bounds and of their scroll region, and around these, in both directions.
func distancesAround(b api.Bounds) []int {
	return numbersAround(0, 1, -b.Top, b.Top, -b.Bottom, b.Bottom, b.Top-b.Bottom, b.Bottom-b.Top, -b.Height, b.Height, -b.Width, b.Width)
}

// eachCursor calls a function with cursors inside bounds, at their edges, and outside on each side.
func eachCursor(b api.Bounds, use func(c api.Cursor)) {
	for _, row := range rowsAround(b) {
		for _, col := range colsAround(b) {
			use(at(row, col))
			use(pendingAt(row, col))
		}
	}
}

// eachProper calls a function with all proper bounds of small terminals and with some of large ones.
func eachProper(use func(b api.Bounds)) {
	both := func(width, height, top, bottom int) {
		use(api.Bounds{Width: width, Height: height, Top: top, Bottom: bottom})
		use(api.Bounds{Width: width, Height: height, Top: top, Bottom: bottom, Origin: true})
	}
	for _, width := range []int{1, 2, 3} {
		for height := range 5 {
			for bottom := range height + 1 {
				for top := range bottom {
					both(width, height, top, bottom)
				}
			}
		}
	}
	for _, c := range [][4]int{
		{10, 5, 1, 4}, {80, 24, 0, 24}, {80, 24, 5, 20}, {1, 60, 30, 31}, {132, 1, 0, 1},
		{132, 60, 0, 60}, {132, 60, 0, 1}, {132, 60, 59, 60}, {132, 60, 0, 59}, {132, 60, 1, 60}, {132, 60, 20, 40},
	} {
		both(c[0], c[1], c[2], c[3])
	}
}
