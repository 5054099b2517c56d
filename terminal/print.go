package terminal

import (
	"narrator/api"
	"narrator/cellrow"
	"narrator/charwidth"
	"narrator/cluster"
	"narrator/modes"
	"narrator/utf8stream"
)

// printCharacter prints a character, or attaches it to the cell before the cursor if it is a mark.
func printCharacter(t *api.Terminal, r rune) {
	shown := modes.Map(t.Modes, r)
	width := charwidth.Width(shown)
	switch {
	case width < 0 || width > t.Grid.Width:
		return
	case width == 0:
		attachMark(t, shown)
	default:
		printCluster(t, utf8stream.Encode([]rune{shown}), width)
	}
}

// printCluster prints a cluster of a width that the terminal has room for.
func printCluster(t *api.Terminal, c string, width int) {
	last := t.Grid.Width - 1
	if t.Cursor.Pending && t.Modes.Wrap {
		nextLine(t)
	}
	t.Cursor.Pending = false
	if width == 2 && t.Cursor.Col == last {
		if t.Modes.Wrap {
			nextLine(t)
		} else {
			t.Cursor.Col = last - 1
		}
	}
	if t.Modes.Insert {
		insertCells(t, width)
	}
	changeRow(t, func(l []api.Cell) ([]api.Cell, api.Errno) { return cellrow.Put(l, t.Cursor.Col, c, t.Attr) })
	t.Cursor.Col += width
	if t.Cursor.Col > last {
		t.Cursor.Col, t.Cursor.Pending = last, t.Modes.Wrap
	}
}

// attachMark attaches a mark to the cluster that was printed before the cursor. A concealed mark must not become visible in a cell that is not concealed.
func attachMark(t *api.Terminal, mark rune) {
	changeRow(t, func(l []api.Cell) ([]api.Cell, api.Errno) {
		col := t.Cursor.Col
		if !t.Cursor.Pending {
			col--
		}
		if 0 <= col && col < len(l) && l[col].Width == 0 {
			col--
		}
		if col < 0 || col >= len(l) {
			return nil, api.ErrRange
		}
		a := l[col].Attr
		if isConcealed(t.Attr) && !isConcealed(a) {
			return nil, api.ErrArgument
		}
		c, e := cluster.Attach(l[col].Text, mark)
		if e != api.OK {
			return nil, e
		}
		return cellrow.Put(l, col, c, a)
	})
}

// isConcealed reports whether a cell with a rendition is concealed.
func isConcealed(a api.Attr) bool {
	return a.Flags&api.Conceal != 0
}
