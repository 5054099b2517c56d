package terminal

import (
	"slices"

	"narrator/api"
	"narrator/cellrow"
	"narrator/grid"
	"narrator/scrollback"
)

// changeRow replaces the current row by what a function returns for it, unless that is an error.
func changeRow(t *api.Terminal, change func(l []api.Cell) ([]api.Cell, api.Errno)) {
	row := t.Cursor.Row
	if row < 0 || row >= len(t.Grid.Rows) {
		return
	}
	l, e := change(t.Grid.Rows[row])
	if e != api.OK {
		return
	}
	// Layer 8's Set would check and copy all cells of the grid for each character that is printed.
	rows := slices.Clone(t.Grid.Rows)
	rows[row] = l
	t.Grid.Rows = rows
}

// insertCells inserts n blank cells at the cursor.
func insertCells(t *api.Terminal, n int) {
	t.Cursor.Pending = false
	changeRow(t, func(l []api.Cell) ([]api.Cell, api.Errno) { return cellrow.Insert(l, t.Cursor.Col, n, t.Attr) })
}

// deleteCells deletes n cells at the cursor.
func deleteCells(t *api.Terminal, n int) {
	t.Cursor.Pending = false
	changeRow(t, func(l []api.Cell) ([]api.Cell, api.Errno) { return cellrow.Delete(l, t.Cursor.Col, n, t.Attr) })
}

// eraseCells erases the cells of the current row from from to to-1.
func eraseCells(t *api.Terminal, from, to int) {
	t.Cursor.Pending = false
	changeRow(t, func(l []api.Cell) ([]api.Cell, api.Errno) { return cellrow.Erase(l, from, to, t.Attr) })
}

// eraseInRow erases a part of the current row: from the cursor on, up to the cursor, or all of it.
func eraseInRow(t *api.Terminal, part int) {
	switch part {
	case 0:
		eraseCells(t, t.Cursor.Col, t.Grid.Width)
	case 1:
		eraseCells(t, 0, t.Cursor.Col+1)
	case 2:
		eraseCells(t, 0, t.Grid.Width)
	}
}

// eraseInGrid erases a part of the grid: from the cursor on, up to the cursor, or all of it; or else the scrollback.
func eraseInGrid(t *api.Terminal, part int) {
	eraseInRow(t, part)
	switch part {
	case 0:
		clearRows(t, t.Cursor.Row+1, t.Grid.Height, t.Attr)
	case 1:
		clearRows(t, 0, t.Cursor.Row, t.Attr)
	case 2:
		clearRows(t, 0, t.Grid.Height, t.Attr)
	case 3:
		t.Back = nil
	}
}

// clearRows makes the rows from from to to-1 blank.
func clearRows(t *api.Terminal, from, to int, a api.Attr) {
	if g, e := grid.Clear(t.Grid, from, to, a); e == api.OK {
		t.Grid = g
	}
}

// scrollRegion moves the rows of the scroll region up (down, if n is negative). Those that leave the main grid at its top are kept.
func scrollRegion(t *api.Terminal, n int) {
	gone := scrollFrom(t, t.Top, n)
	if t.Top == 0 && !t.Modes.Alternate {
		t.Back = scrollback.Push(t.Back, gone)
	}
}

// scrollFrom moves the rows from top to the end of the scroll region up (down, if n is negative), and returns those that are moved out at the top.
func scrollFrom(t *api.Terminal, top, n int) [][]api.Cell {
	g, gone, e := grid.Scroll(t.Grid, top, t.Bottom, n, t.Attr)
	if e == api.OK {
		t.Grid = g
	}
	return gone
}

// shiftRows moves the rows from the current one to the end of the scroll region up (down, if n is negative).
func shiftRows(t *api.Terminal, n int) {
	row := t.Cursor.Row
	if t.Top <= row && row < t.Bottom {
		scrollFrom(t, row, n)
		carriageReturn(t)
	}
}
