package terminal

import (
	"strconv"

	"narrator/api"
	"narrator/attr"
	"narrator/csiparam"
	"narrator/cursor"
	"narrator/modes"
	"narrator/tabstop"
)

// maxReply is how many bytes wait for the program at most.
const maxReply = 1000

// executeSequence executes a control sequence.
func executeSequence(t *api.Terminal, e api.Event) {
	setsModes := e.Code == 'h' || e.Code == 'l'
	if e.Inter != "" || e.Private != 0 && !setsModes {
		return
	}
	if effect, found := effects(t, e)[e.Code]; found {
		effect()
	}
}

// effects returns the effect of each code on a terminal, with the parameters of an event.
func effects(t *api.Terminal, e api.Event) map[byte]func() {
	p, q := csiparam.At(e.Params, 0, 1), csiparam.At(e.Params, 1, 1)
	part := csiparam.At(e.Params, 0, 0)
	up := func(n int) { t.Cursor = cursor.Up(t.Cursor, n, bounds(t)) }
	right := func(n int) { t.Cursor = cursor.Right(t.Cursor, n, bounds(t)) }
	to := func(row, col int) { t.Cursor = cursor.To(t.Cursor, row, col, bounds(t)) }
	return map[byte]func(){
		'@': func() { insertCells(t, p) },
		'A': func() { up(p) },
		'B': func() { up(-p) },
		'C': func() { right(p) },
		'D': func() { right(-p) },
		'E': func() { up(-p); carriageReturn(t) },
		'F': func() { up(p); carriageReturn(t) },
		'G': func() { toColumn(t, p-1) },
		'H': func() { to(p, q) },
		'I': func() { tabulate(t, p, tabstop.Next) },
		'J': func() { eraseInGrid(t, part) },
		'K': func() { eraseInRow(t, part) },
		'L': func() { shiftRows(t, -p) },
		'M': func() { shiftRows(t, p) },
		'P': func() { deleteCells(t, p) },
		'S': func() { scrollRegion(t, p) },
		'T': func() { scrollRegion(t, -p) },
		'X': func() { eraseCells(t, t.Cursor.Col, min(t.Cursor.Col+p, t.Grid.Width)) },
		'Z': func() { tabulate(t, p, tabstop.Previous) },
		'`': func() { toColumn(t, p-1) },
		'a': func() { right(p) },
		'd': func() { to(p, t.Cursor.Col+1) },
		'e': func() { up(-p) },
		'f': func() { to(p, q) },
		'g': func() { clearTabs(t, part) },
		'h': func() { setModes(t, e.Private, e.Params, true) },
		'l': func() { setModes(t, e.Private, e.Params, false) },
		'm': func() { t.Attr = attr.Apply(t.Attr, e.Params) },
		'n': func() { report(t, p) },
		'r': func() { setRegion(t, p, csiparam.At(e.Params, 1, t.Grid.Height)) },
		's': func() { save(t) },
		'u': func() { restore(t) },
	}
}

// toColumn leads to a column. As the chapter names no other effect, Pending is what layer 10's Clamp leaves of it.
func toColumn(t *api.Terminal, col int) {
	t.Cursor.Col = col
	t.Cursor = cursor.Clamp(t.Cursor, bounds(t))
}

// clearTabs clears the tab stop at the cursor, or all of them.
func clearTabs(t *api.Terminal, which int) {
	switch which {
	case 0:
		t.Tabs = tabstop.Set(t.Tabs, t.Cursor.Col, false)
	case 3:
		t.Tabs = make([]bool, len(t.Tabs))
	}
}

// setRegion makes the rows from top to bottom, which are counted from 1, the scroll region.
func setRegion(t *api.Terminal, top, bottom int) {
	bottom = min(bottom, t.Grid.Height)
	if top < bottom {
		t.Top, t.Bottom = top-1, bottom
		home(t)
	}
}

// home leads to the first position, which depends on the scroll region and the mode Origin.
func home(t *api.Terminal) {
	t.Cursor = cursor.To(t.Cursor, 1, 1, bounds(t))
}

// report replies to a question of the program.
func report(t *api.Terminal, question int) {
	switch question {
	case 5:
		reply(t, "\x1b[0n")
	case 6:
		row, col := t.Cursor.Row+1, t.Cursor.Col+1
		if t.Modes.Origin {
			row -= t.Top
		}
		reply(t, "\x1b["+strconv.Itoa(row)+";"+strconv.Itoa(col)+"R")
	}
}

// reply appends a reply to those that wait for the program, if there is room for all of it.
func reply(t *api.Terminal, s string) {
	if len(t.Reply)+len(s) <= maxReply {
		t.Reply += s
	}
}

// setModes sets or resets the modes that numbers denote, one after the other, with what else they do.
func setModes(t *api.Terminal, private byte, numbers []int, on bool) {
	for _, number := range numbers {
		wasAlternate := t.Modes.Alternate
		t.Modes = modes.Set(t.Modes, private, []int{number}, on)
		if private == '?' && number == 6 {
			home(t)
		}
		if t.Modes.Alternate != wasAlternate {
			exchangeGrids(t, number == 1049)
		}
	}
}

// exchangeGrids makes the other grid the active one after the mode Alternate has changed. With the state, the alternate grid begins blank, and the main one is left and entered in the same state.
func exchangeGrids(t *api.Terminal, withState bool) {
	t.Grid, t.Other = t.Other, t.Grid
	switch {
	case !withState:
		return
	case t.Modes.Alternate:
		// The state is still the one before the mode was set, because neither the mode nor the grids are part of it.
		save(t)
		clearRows(t, 0, t.Grid.Height, attr.Default())
	default:
		restore(t)
	}
}
