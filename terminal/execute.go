package terminal

import (
	"strings"

	"narrator/api"
	"narrator/cursor"
	"narrator/modes"
	"narrator/tabstop"
	"narrator/utf8stream"
)

// The functions that execute something change the terminal that they are passed. They replace its slices and never change what these contain, because the slices may belong to an argument of an exported function.

// execute executes an event that layer 6 accepts.
func execute(t *api.Terminal, e api.Event) {
	switch e.Kind {
	case api.PrintEvent:
		printCharacter(t, e.Rune)
	case api.ControlEvent:
		executeControl(t, e.Code)
	case api.EscapeEvent:
		executeEscape(t, e.Inter, e.Code)
	case api.SequenceEvent:
		executeSequence(t, e)
	case api.CommandEvent:
		executeCommand(t, e.Text)
	}
}

// executeControl executes a control character.
func executeControl(t *api.Terminal, code byte) {
	switch code {
	case '\b':
		t.Cursor = cursor.Right(t.Cursor, -1, bounds(t))
	case '\t':
		tabulate(t, 1, tabstop.Next)
	case '\n', '\v', '\f':
		lineFeed(t)
		if t.Modes.NewLine {
			carriageReturn(t)
		}
	case '\r':
		carriageReturn(t)
	case 14:
		t.Modes = modes.Shift(t.Modes, 1)
	case 15:
		t.Modes = modes.Shift(t.Modes, 0)
	}
}

// executeEscape executes an escape sequence.
func executeEscape(t *api.Terminal, inter string, code byte) {
	if inter != "" {
		t.Modes = modes.Designate(t.Modes, inter, code)
		return
	}
	switch code {
	case '7':
		save(t)
	case '8':
		restore(t)
	case 'D':
		lineFeed(t)
	case 'E':
		nextLine(t)
	case 'M':
		reverseLineFeed(t)
	case 'H':
		t.Tabs = tabstop.Set(t.Tabs, t.Cursor.Col, true)
	case 'c':
		reset(t)
	}
}

// executeCommand executes an operating system command: the title is all that one can set.
func executeCommand(t *api.Terminal, text string) {
	for _, prefix := range []string{"0;", "2;"} {
		if title, found := strings.CutPrefix(text, prefix); found {
			t.Title = utf8stream.Encode(utf8stream.Finish(title))
		}
	}
}

// carriageReturn leads to the first column.
func carriageReturn(t *api.Terminal) {
	t.Cursor.Col, t.Cursor.Pending = 0, false
}

// nextLine leads to the first column of the next row.
func nextLine(t *api.Terminal) {
	carriageReturn(t)
	lineFeed(t)
}

// lineFeed leads to the next row, or scrolls the scroll region up.
func lineFeed(t *api.Terminal) {
	moved, by := cursor.Feed(t.Cursor, bounds(t))
	t.Cursor = moved
	if by > 0 {
		scrollRegion(t, by)
	}
}

// reverseLineFeed leads to the previous row, or scrolls the scroll region down.
func reverseLineFeed(t *api.Terminal) {
	moved, by := cursor.Reverse(t.Cursor, bounds(t))
	t.Cursor = moved
	if by > 0 {
		scrollRegion(t, -by)
	}
}

// tabulate leads to the tab stop that is n tab stops away.
func tabulate(t *api.Terminal, n int, follow func(l []bool, col int) int) {
	t.Cursor.Pending = false
	// After as many steps as there are columns, further ones lead nowhere.
	for range min(n, len(t.Tabs)) {
		t.Cursor.Col = follow(t.Tabs, t.Cursor.Col)
	}
}

// reset returns to a new terminal. What comes from the program and what goes to it are not interrupted.
func reset(t *api.Terminal) {
	fresh, e := New(t.Grid.Width, t.Grid.Height)
	if e != api.OK {
		return
	}
	fresh.Parser, fresh.Reply = t.Parser, t.Reply
	*t = fresh
}
