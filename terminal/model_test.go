package terminal

import (
	"fmt"
	"math/rand"
	"slices"
	"strings"

	"narrator/api"
	"narrator/attr"
	"narrator/cellrow"
	"narrator/charwidth"
	"narrator/grid"
	"narrator/modes"
	"narrator/utf8stream"
	"narrator/vtparse"
)

// A machine executes events as the chapter says, in other terms than the program: it changes cells in place, one cell, row, step or number after the other.
type machine struct {
	api.Terminal
}

// machineOf returns a machine with a terminal, which it does not change.
func machineOf(t api.Terminal) *machine {
	return &machine{copied(t)}
}

// chapterDo returns the result of Do as the chapter defines it.
func chapterDo(t api.Terminal, e api.Event) api.Terminal {
	m := machineOf(t)
	if vtparse.Check(e) == api.OK {
		m.do(e)
	}
	return m.Terminal
}

// chapterWrite returns the result of Write as the chapter defines it.
func chapterWrite(t api.Terminal, chunk string) api.Terminal {
	m := machineOf(t)
	parser, events := vtparse.Feed(t.Parser, chunk)
	for _, e := range events {
		m.do(e)
	}
	m.Parser = parser
	return m.Terminal
}

// chapterNew returns the result of New for a valid size as the chapter defines it.
func chapterNew(width, height int) api.Terminal {
	plain := api.Attr{Fore: -1, Back: -1}
	t := api.Terminal{Grid: blankGrid(width, height), Other: blankGrid(width, height), Attr: plain, Bottom: height}
	t.Saved = api.Saved{Attr: plain, Sets: [2]byte{'B', 'B'}}
	t.Modes = api.Modes{Wrap: true, Visible: true, Sets: [2]byte{'B', 'B'}}
	for col := range width {
		t.Tabs = append(t.Tabs, col%8 == 0)
	}
	return t
}

// chapterResize returns the result of Resize for a valid size as the chapter defines it.
func chapterResize(t api.Terminal, width, height int) api.Terminal {
	m := machineOf(t)
	for _, g := range []*api.Grid{&m.Grid, &m.Other} {
		resized := blankGrid(width, height)
		for row := range min(height, g.Height) {
			copy(resized.Rows[row], g.Rows[row])
			if last := &resized.Rows[row][width-1]; last.Width == 2 {
				*last = blankCell(last.Attr.Back)
			}
		}
		*g = resized
	}
	for _, c := range []*api.Cursor{&m.Cursor, &m.Saved.Cursor} {
		*c = api.Cursor{Row: min(c.Row, height-1), Col: min(c.Col, width-1)}
	}
	m.Top, m.Bottom = 0, height
	for col := len(m.Tabs); col < width; col++ {
		m.Tabs = append(m.Tabs, col%8 == 0)
	}
	m.Tabs = m.Tabs[:width]
	return m.Terminal
}

// chapterCheck returns the result of Check as the chapter defines it.
func chapterCheck(t api.Terminal) api.Errno {
	isIn := func(n, low, high int) bool { return low <= n && n <= high }
	conditions := []bool{
		grid.Check(t.Grid) == api.OK,
		grid.Check(t.Other) == api.OK,
		t.Grid.Width == t.Other.Width,
		t.Grid.Height == t.Other.Height,
		0 <= t.Top,
		t.Top < t.Bottom,
		t.Bottom <= t.Grid.Height,
		len(t.Tabs) == t.Grid.Width,
		len(t.Back) <= 500,
		isIn(t.Modes.Shift, 0, 1),
		isIn(t.Saved.Shift, 0, 1),
		string([]rune(t.Title)) == t.Title,
	}
	for _, c := range []api.Cursor{t.Cursor, t.Saved.Cursor} {
		conditions = append(conditions, isIn(c.Row, 0, t.Grid.Height-1), isIn(c.Col, 0, t.Grid.Width-1), !c.Pending || c.Col == t.Grid.Width-1)
	}
	for _, a := range []api.Attr{t.Attr, t.Saved.Attr} {
		conditions = append(conditions, isIn(a.Fore, -1, 255), isIn(a.Back, -1, 255), isIn(a.Flags, 0, 255))
	}
	for _, set := range []byte{t.Modes.Sets[0], t.Modes.Sets[1], t.Saved.Sets[0], t.Saved.Sets[1]} {
		conditions = append(conditions, strings.IndexByte("B0", set) >= 0)
	}
	for _, l := range t.Back {
		conditions = append(conditions, cellrow.Check(l) == api.OK)
	}
	if slices.Contains(conditions, false) {
		return api.ErrArgument
	}
	return api.OK
}

// blankCell returns the blank cell for a color.
func blankCell(color int) api.Cell {
	return api.Cell{Text: " ", Width: 1, Attr: api.Attr{Fore: -1, Back: color}}
}

// blankRow returns a row of blank cells for a color.
func blankRow(width, color int) []api.Cell {
	return slices.Repeat([]api.Cell{blankCell(color)}, width)
}

// blankGrid returns a grid of blank cells for the default color.
func blankGrid(width, height int) api.Grid {
	g := api.Grid{Width: width, Height: height}
	for range height {
		g.Rows = append(g.Rows, blankRow(width, -1))
	}
	return g
}

// unpair makes the halves of a pair blank, if a cell belongs to one.
func unpair(l []api.Cell, col int) {
	switch l[col].Width {
	case 2:
		l[col], l[col+1] = blankCell(l[col].Attr.Back), blankCell(l[col+1].Attr.Back)
	case 0:
		l[col-1], l[col] = blankCell(l[col-1].Attr.Back), blankCell(l[col].Attr.Back)
	}
}

// divide makes the halves of a pair blank, if it begins before a column and ends there.
func divide(l []api.Cell, col int) {
	if col < len(l) && l[col].Width == 0 {
		unpair(l, col)
	}
}

// row returns the current row.
func (m *machine) row() []api.Cell { return m.Grid.Rows[m.Cursor.Row] }

// last returns the last column.
func (m *machine) last() int { return m.Grid.Width - 1 }

// insert inserts a blank cell at the cursor.
func (m *machine) insert() {
	l, col := m.row(), m.Cursor.Col
	divide(l, col)
	copy(l[col+1:], l[col:])
	l[col] = blankCell(m.Attr.Back)
	if l[m.last()].Width == 2 {
		l[m.last()] = blankCell(l[m.last()].Attr.Back)
	}
}

// delete deletes the cell at the cursor.
func (m *machine) delete() {
	l, col := m.row(), m.Cursor.Col
	divide(l, col)
	divide(l, col+1)
	copy(l[col:], l[col+1:])
	l[m.last()] = blankCell(m.Attr.Back)
}

// erase erases the cells of a row from a column to another one, both included, as far as there are any.
func (m *machine) erase(row, from, to int) {
	l := m.Grid.Rows[row]
	for col := max(from, 0); col <= min(to, m.last()); col++ {
		unpair(l, col)
		l[col] = blankCell(m.Attr.Back)
	}
}

// put puts a cluster at the cursor.
func (m *machine) put(text string, width int) {
	l, col := m.row(), m.Cursor.Col
	for i := range width {
		unpair(l, col+i)
		l[col+i] = api.Cell{Attr: m.Attr}
	}
	l[col].Text, l[col].Width = text, width
}

// scrollUp moves the rows from a row to the end of the scroll region up by one, and returns the one that is moved out.
func (m *machine) scrollUp(from int) []api.Cell {
	gone := m.Grid.Rows[from]
	for row := from; row < m.Bottom-1; row++ {
		m.Grid.Rows[row] = m.Grid.Rows[row+1]
	}
	m.Grid.Rows[m.Bottom-1] = blankRow(m.Grid.Width, m.Attr.Back)
	return gone
}

// scrollDown moves the rows from a row to the end of the scroll region down by one.
func (m *machine) scrollDown(from int) {
	for row := m.Bottom - 1; row > from; row-- {
		m.Grid.Rows[row] = m.Grid.Rows[row-1]
	}
	m.Grid.Rows[from] = blankRow(m.Grid.Width, m.Attr.Back)
}

// scrollRegionUp moves the rows of the scroll region up by one, and keeps the one that is moved out at the top of the main grid.
func (m *machine) scrollRegionUp() {
	gone := m.scrollUp(m.Top)
	if m.Top > 0 || m.Modes.Alternate {
		return
	}
	m.Back = append(m.Back, gone)
	if len(m.Back) > 500 {
		m.Back = m.Back[1:]
	}
}

// toStart is the chapter's Return.
func (m *machine) toStart() { m.Cursor = api.Cursor{Row: m.Cursor.Row} }

// feed is the chapter's line feed.
func (m *machine) feed() {
	m.Cursor.Pending = false
	if m.Cursor.Row == m.Bottom-1 {
		m.scrollRegionUp()
	} else if m.Cursor.Row < m.Grid.Height-1 {
		m.Cursor.Row++
	}
}

// reverse is the opposite of feed.
func (m *machine) reverse() {
	m.Cursor.Pending = false
	if m.Cursor.Row == m.Top {
		m.scrollDown(m.Top)
	} else if m.Cursor.Row > 0 {
		m.Cursor.Row--
	}
}

// isInRegion reports whether the current row is in the scroll region.
func (m *machine) isInRegion() bool {
	return m.Top <= m.Cursor.Row && m.Cursor.Row < m.Bottom
}

// moveRows moves the cursor by rows, one by one.
func (m *machine) moveRows(n, by int) {
	first, last := 0, m.Grid.Height-1
	if m.isInRegion() {
		first, last = m.Top, m.Bottom-1
	}
	for range n {
		if next := m.Cursor.Row + by; first <= next && next <= last {
			m.Cursor.Row = next
		}
	}
	m.Cursor.Pending = false
}

// moveCols moves the cursor by columns, one by one.
func (m *machine) moveCols(n, by int) {
	for range n {
		if next := m.Cursor.Col + by; 0 <= next && next <= m.last() {
			m.Cursor.Col = next
		}
	}
	m.Cursor.Pending = false
}

// to leads to a position that is counted from 1.
func (m *machine) to(row, col int) {
	first, last := 0, m.Grid.Height-1
	if m.Modes.Origin {
		first, last = m.Top, m.Bottom-1
	}
	m.Cursor = api.Cursor{Row: min(first+row-1, last), Col: min(col-1, m.last())}
}

// tab leads to the next tab stop, or to the previous one, column by column.
func (m *machine) tab(by int) {
	m.moveCols(1, by)
	for 0 < m.Cursor.Col && m.Cursor.Col < m.last() && !m.Tabs[m.Cursor.Col] {
		m.moveCols(1, by)
	}
}

// save is the chapter's saving.
func (m *machine) save() {
	m.Saved.Cursor, m.Saved.Attr = m.Cursor, m.Attr
	m.Saved.Origin, m.Saved.Sets, m.Saved.Shift = m.Modes.Origin, m.Modes.Sets, m.Modes.Shift
}

// restore is the chapter's restoring.
func (m *machine) restore() {
	m.Cursor, m.Attr = m.Saved.Cursor, m.Saved.Attr
	m.Modes.Origin, m.Modes.Sets, m.Modes.Shift = m.Saved.Origin, m.Saved.Sets, m.Saved.Shift
}

// do executes an event that layer 6 accepts.
func (m *machine) do(e api.Event) {
	switch e.Kind {
	case 1:
		m.print(modes.Map(m.Modes, e.Rune))
	case 2:
		m.control(e.Code)
	case 3:
		m.escape(e.Inter + string(rune(e.Code)))
	case 4:
		m.sequence(e)
	case 5:
		if strings.HasPrefix(e.Text, "0;") || strings.HasPrefix(e.Text, "2;") {
			characters, pending := utf8stream.Decode("", e.Text[2:])
			m.Title = string(characters) + string(utf8stream.Finish(pending))
		}
	}
}

// print executes a printed character after the character set was applied.
func (m *machine) print(r rune) {
	width := charwidth.Width(r)
	switch {
	case width < 0, width == 2 && m.Grid.Width == 1:
		return
	case width == 0:
		m.combine(r)
		return
	}
	if m.Cursor.Pending && m.Modes.Wrap {
		m.toStart()
		m.feed()
	}
	m.Cursor.Pending = false
	if width == 2 && m.Cursor.Col == m.last() {
		if m.Modes.Wrap {
			m.toStart()
			m.feed()
		} else {
			m.Cursor.Col = m.Grid.Width - 2
		}
	}
	if m.Modes.Insert {
		for range width {
			m.insert()
		}
	}
	m.put(string(r), width)
	if m.Cursor.Col+width > m.last() {
		m.Cursor = api.Cursor{Row: m.Cursor.Row, Col: m.last(), Pending: m.Modes.Wrap}
	} else {
		m.Cursor.Col += width
	}
}

// combine executes a mark.
func (m *machine) combine(mark rune) {
	before := m.row()[:m.Cursor.Col]
	if m.Cursor.Pending {
		before = m.row()
	}
	for i := len(before) - 1; i >= 0; i-- {
		c := &before[i]
		if c.Width == 0 {
			continue
		}
		isHidden := m.Attr.Flags&64 != 0 && c.Attr.Flags&64 == 0
		if !isHidden && len([]rune(c.Text)) < 4 {
			c.Text += string(mark)
		}
		return
	}
}

// control executes a control character.
func (m *machine) control(code byte) {
	switch code {
	case 8:
		m.moveCols(1, -1)
	case 9:
		m.tab(1)
	case 10, 11, 12:
		m.feed()
		if m.Modes.NewLine {
			m.toStart()
		}
	case 13:
		m.toStart()
	case 14:
		m.Modes.Shift = 1
	case 15:
		m.Modes.Shift = 0
	}
}

// escape executes an escape sequence, given by its bytes.
func (m *machine) escape(s string) {
	switch s {
	case "7":
		m.save()
	case "8":
		m.restore()
	case "D":
		m.feed()
	case "E":
		m.toStart()
		m.feed()
	case "M":
		m.reverse()
	case "H":
		m.Tabs[m.Cursor.Col] = true
	case "c":
		fresh := chapterNew(m.Grid.Width, m.Grid.Height)
		fresh.Parser, fresh.Reply = m.Parser, m.Reply
		m.Terminal = fresh
	case "(B", "(0":
		m.Modes.Sets[0] = s[1]
	case ")B", ")0":
		m.Modes.Sets[1] = s[1]
	}
}

// parameter returns a parameter of an event, or its default value.
func parameter(e api.Event, i, value int) int {
	if i < len(e.Params) && e.Params[i] >= 1 {
		return e.Params[i]
	}
	return value
}

// sequence executes a control sequence.
func (m *machine) sequence(e api.Event) {
	if e.Inter != "" {
		return
	}
	switch {
	case e.Code == 'h' || e.Code == 'l':
		for _, number := range e.Params {
			m.mode(e.Private, number, e.Code == 'h')
		}
	case e.Private != 0:
		return
	case strings.IndexByte("ABCDEFGHIZade`f", e.Code) >= 0:
		m.move(e)
	case strings.IndexByte("@JKLMPSTX", e.Code) >= 0:
		m.edit(e)
	default:
		m.set(e)
	}
}

// mode sets or resets a mode.
func (m *machine) mode(private byte, number int, on bool) {
	switch fmt.Sprint(string(rune(private)), number) {
	case "\x004":
		m.Modes.Insert = on
	case "\x0020":
		m.Modes.NewLine = on
	case "?1":
		m.Modes.Application = on
	case "?6":
		m.Modes.Origin = on
		m.to(1, 1)
	case "?7":
		m.Modes.Wrap = on
	case "?25":
		m.Modes.Visible = on
	case "?47", "?1047", "?1049":
		if on != m.Modes.Alternate {
			m.exchange(number == 1049)
		}
	case "?2048":
		m.Modes.Concealed = on
	}
}

// exchange enters or leaves the alternate screen.
func (m *machine) exchange(isWhole bool) {
	if isWhole && !m.Modes.Alternate {
		m.save()
	}
	m.Modes.Alternate = !m.Modes.Alternate
	m.Grid, m.Other = m.Other, m.Grid
	if isWhole && m.Modes.Alternate {
		m.Grid = blankGrid(m.Grid.Width, m.Grid.Height)
	}
	if isWhole && !m.Modes.Alternate {
		m.restore()
	}
}

// move executes the sequences that move the cursor.
func (m *machine) move(e api.Event) {
	p, q := parameter(e, 0, 1), parameter(e, 1, 1)
	switch e.Code {
	case 'A':
		m.moveRows(p, -1)
	case 'B', 'e':
		m.moveRows(p, 1)
	case 'C', 'a':
		m.moveCols(p, 1)
	case 'D':
		m.moveCols(p, -1)
	case 'E':
		m.moveRows(p, 1)
		m.toStart()
	case 'F':
		m.moveRows(p, -1)
		m.toStart()
	case 'G', '`':
		m.Cursor.Col = min(p-1, m.last())
		m.Cursor.Pending = m.Cursor.Pending && m.Cursor.Col == m.last()
	case 'H', 'f':
		m.to(p, q)
	case 'd':
		m.to(p, m.Cursor.Col+1)
	case 'I':
		for range p {
			m.tab(1)
		}
	case 'Z':
		for range p {
			m.tab(-1)
		}
	}
}

// edit executes the sequences that change the grid.
func (m *machine) edit(e api.Event) {
	p, part := parameter(e, 0, 1), parameter(e, 0, 0)
	row, col := m.Cursor.Row, m.Cursor.Col
	switch e.Code {
	case '@':
		for range p {
			m.insert()
		}
	case 'P':
		for range p {
			m.delete()
		}
	case 'X':
		m.erase(row, col, col+p-1)
	case 'J':
		for i := range m.Grid.Rows {
			if i > row && part == 0 || i < row && part == 1 || i != row && part == 2 {
				m.erase(i, 0, m.last())
			}
		}
		if part == 3 {
			m.Back = nil
		}
		m.eraseRow(part)
	case 'K':
		m.eraseRow(part)
	case 'L', 'M', 'S', 'T':
		m.scroll(e.Code, p)
		return
	}
	if strings.IndexByte("@PX", e.Code) >= 0 || part < 3 {
		m.Cursor.Pending = false
	}
}

// eraseRow erases a part of the current row.
func (m *machine) eraseRow(part int) {
	row, col := m.Cursor.Row, m.Cursor.Col
	switch part {
	case 0:
		m.erase(row, col, m.last())
	case 1:
		m.erase(row, 0, col)
	case 2:
		m.erase(row, 0, m.last())
	}
}

// scroll executes the sequences that move rows, row by row.
func (m *machine) scroll(code byte, n int) {
	isOfRow := code == 'L' || code == 'M'
	if isOfRow && !m.isInRegion() {
		return
	}
	from := m.Top
	if isOfRow {
		from = m.Cursor.Row
		m.toStart()
	}
	for range min(n, m.Bottom-from) {
		switch code {
		case 'L', 'T':
			m.scrollDown(from)
		case 'M':
			m.scrollUp(from)
		case 'S':
			m.scrollRegionUp()
		}
	}
}

// set executes the other sequences.
func (m *machine) set(e api.Event) {
	p, part := parameter(e, 0, 1), parameter(e, 0, 0)
	switch e.Code {
	case 'g':
		for col := range m.Tabs {
			if part == 3 || part == 0 && col == m.Cursor.Col {
				m.Tabs[col] = false
			}
		}
	case 'm':
		m.Attr = attr.Apply(m.Attr, e.Params)
	case 'n':
		m.reply(p)
	case 'r':
		if b := min(parameter(e, 1, m.Grid.Height), m.Grid.Height); p < b {
			m.Top, m.Bottom = p-1, b
			m.to(1, 1)
		}
	case 's':
		m.save()
	case 'u':
		m.restore()
	}
}

// reply answers a question.
func (m *machine) reply(question int) {
	s := ""
	switch {
	case question == 5:
		s = "\x1b[0n"
	case question == 6 && m.Modes.Origin:
		s = fmt.Sprintf("\x1b[%d;%dR", m.Cursor.Row-m.Top+1, m.Cursor.Col+1)
	case question == 6:
		s = fmt.Sprintf("\x1b[%d;%dR", m.Cursor.Row+1, m.Cursor.Col+1)
	}
	if len(m.Reply+s) <= 1000 {
		m.Reply += s
	}
}

// copied returns a copy of a terminal that shares no memory with it.
func copied(t api.Terminal) api.Terminal {
	for _, rows := range []*[][]api.Cell{&t.Grid.Rows, &t.Other.Rows, &t.Back} {
		copies := [][]api.Cell{}
		for _, l := range *rows {
			copies = append(copies, slices.Clone(l))
		}
		*rows = copies
	}
	t.Tabs = slices.Clone(t.Tabs)
	return t
}

// sameRows reports whether two lists of rows are equal.
func sameRows(a, b [][]api.Cell) bool {
	return slices.EqualFunc(a, b, slices.Equal[[]api.Cell])
}

// sameGrid reports whether two grids are equal.
func sameGrid(a, b api.Grid) bool {
	return a.Width == b.Width && a.Height == b.Height && sameRows(a.Rows, b.Rows)
}

// difference returns the fields in which two terminals differ.
func difference(got, want api.Terminal) string {
	fields := []string{}
	add := func(name string, same bool, got, want any) {
		if !same {
			fields = append(fields, fmt.Sprintf("%s %v, want %v", name, got, want))
		}
	}
	add("Grid", sameGrid(got.Grid, want.Grid), got.Grid, want.Grid)
	add("Other", sameGrid(got.Other, want.Other), got.Other, want.Other)
	add("Cursor", got.Cursor == want.Cursor, got.Cursor, want.Cursor)
	add("Saved", got.Saved == want.Saved, got.Saved, want.Saved)
	add("Attr", got.Attr == want.Attr, got.Attr, want.Attr)
	add("Modes", got.Modes == want.Modes, got.Modes, want.Modes)
	add("Top", got.Top == want.Top, got.Top, want.Top)
	add("Bottom", got.Bottom == want.Bottom, got.Bottom, want.Bottom)
	add("Tabs", slices.Equal(got.Tabs, want.Tabs), got.Tabs, want.Tabs)
	add("Back", sameRows(got.Back, want.Back), got.Back, want.Back)
	add("Parser", got.Parser == want.Parser, got.Parser, want.Parser)
	add("Title", got.Title == want.Title, got.Title, want.Title)
	add("Reply", got.Reply == want.Reply, got.Reply, want.Reply)
	return strings.Join(fields, "; ")
}

// Renditions of the tests' cells.
var (
	plain     = api.Attr{Fore: -1, Back: -1}
	red       = api.Attr{Fore: 7, Back: 1}
	concealed = api.Attr{Fore: -1, Back: 4, Flags: api.Conceal}
	whole     = api.Attr{Fore: 255, Back: 255, Flags: 255}
)

// renditions are those that are chosen from at random.
var renditions = []api.Attr{plain, red, concealed, whole, {Fore: 0, Back: -1, Flags: api.Bold}}

// The clusters of the tests' rows.
var (
	narrowTexts = []string{"a", "b", "e\u0301", " ", "x\u0300\u0301\u0302", "\u2500", "~"}
	wideTexts   = []string{"\u6F22", "\u5B57\u0301", "\U0001F600\uFE0F\u0301\u0302"}
)

// pick returns an element of a list.
func pick[T any](random *rand.Rand, l []T) T {
	return l[random.Intn(len(l))]
}

// shapedRow returns a row of narrow cells and wide pairs.
func shapedRow(width int, random *rand.Rand) []api.Cell {
	l := []api.Cell{}
	for len(l) < width {
		a := pick(random, renditions)
		if len(l)+1 < width && random.Intn(3) == 0 {
			l = append(l, api.Cell{Text: pick(random, wideTexts), Width: 2, Attr: a}, api.Cell{Attr: a})
			continue
		}
		l = append(l, api.Cell{Text: pick(random, narrowTexts), Width: 1, Attr: a})
	}
	return l
}

// shapedRows returns n rows.
func shapedRows(n, width int, random *rand.Rand) [][]api.Cell {
	rows := [][]api.Cell{}
	for range n {
		rows = append(rows, shapedRow(width, random))
	}
	return rows
}

// shapedState returns a state for a size.
func shapedState(width, height int, random *rand.Rand) api.Saved {
	c := api.Cursor{Row: random.Intn(height), Col: random.Intn(width)}
	if random.Intn(3) == 0 {
		c.Col = width - 1
		c.Pending = random.Intn(4) > 0
	}
	sets := [2]byte{pick(random, []byte("BB0")), pick(random, []byte("B0"))}
	return api.Saved{Cursor: c, Attr: pick(random, renditions), Origin: random.Intn(3) == 0, Sets: sets, Shift: random.Intn(2)}
}

// shaped returns a proper terminal of a size, in which everything else is random.
func shaped(width, height int, random *rand.Rand) api.Terminal {
	isRare := func() bool { return random.Intn(3) == 0 }
	t := api.Terminal{
		Grid:  api.Grid{Width: width, Height: height, Rows: shapedRows(height, width, random)},
		Other: api.Grid{Width: width, Height: height, Rows: shapedRows(height, width, random)},
		Saved: shapedState(width, height, random),
		Title: pick(random, []string{"", "title", "\u6F22"}),
		Reply: pick(random, []string{"", "\x1b[0n", strings.Repeat("r", 994), strings.Repeat("r", 995), strings.Repeat("r", 1001)}),
	}
	s := shapedState(width, height, random)
	t.Cursor, t.Attr = s.Cursor, s.Attr
	t.Modes = api.Modes{
		Insert: isRare(), NewLine: isRare(), Application: isRare(), Origin: s.Origin, Wrap: !isRare(),
		Visible: !isRare(), Alternate: isRare(), Concealed: isRare(), Sets: s.Sets, Shift: s.Shift,
	}
	t.Bottom = height
	if isRare() || isRare() {
		t.Top = random.Intn(height)
		t.Bottom = t.Top + 1 + random.Intn(height-t.Top)
	}
	for range width {
		t.Tabs = append(t.Tabs, isRare())
	}
	for range random.Intn(3) {
		t.Back = append(t.Back, shapedRow(1+random.Intn(9), random))
	}
	return t
}

// written returns a terminal after a stream.
func written(width, height int, stream string) api.Terminal {
	t, _ := New(width, height)
	return Write(t, stream)
}
