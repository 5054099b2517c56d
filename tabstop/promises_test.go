package tabstop

import (
	"slices"
	"testing"
)

// P9.2: between a column and the one to which a move leads there is no tab stop, and the move leads to a tab stop or to the end of the row.
func TestMovesSkipNoStop(t *testing.T) {
	eachList(func(l []bool) {
		for col := range l {
			next := Next(l, col)
			if slices.Contains(l[min(col+1, next):next], true) || !l[next] && next != len(l)-1 {
				t.Fatalf("Next(%v, %d) = %d", columnsOf(l), col, next)
			}
			previous := Previous(l, col)
			if slices.Contains(l[min(previous+1, col):col], true) || !l[previous] && previous != 0 {
				t.Fatalf("Previous(%v, %d) = %d", columnsOf(l), col, previous)
			}
		}
	})
}

// P9.2: Next leads to a greater column, except from the last one, and Previous to a smaller one, except from column 0.
func TestMovesLeadOn(t *testing.T) {
	eachList(func(l []bool) {
		for col := range l {
			last := col == len(l)-1
			if next := Next(l, col); last && next != col || !last && next <= col {
				t.Fatalf("Next(%v, %d) = %d", columnsOf(l), col, next)
			}
			if previous := Previous(l, col); col == 0 && previous != 0 || col > 0 && previous >= col {
				t.Fatalf("Previous(%v, %d) = %d", columnsOf(l), col, previous)
			}
		}
	})
}

// P9.2: the moves from one end of a row to the other one visit all tab stops in order, and then stay.
func TestMovesVisitAllStops(t *testing.T) {
	eachList(func(l []bool) {
		if len(l) == 0 {
			return
		}
		stops := columnsOf(l)
		forth := []int{}
		for col := -1; col != len(l)-1; {
			col = Next(l, col)
			forth = append(forth, col)
		}
		if want := slices.Compact(append(slices.Clone(stops), len(l)-1)); !slices.Equal(forth, want) {
			t.Fatalf("with the tab stops %v, Next leads to %v", stops, forth)
		}
		back := []int{}
		for col := len(l); col != 0; {
			col = Previous(l, col)
			back = append(back, col)
		}
		slices.Reverse(back)
		if want := slices.Compact(append([]int{0}, stops...)); !slices.Equal(back, want) {
			t.Fatalf("with the tab stops %v, Previous leads to %v", stops, back)
		}
	})
}

// P9.3: after Set, the column has a tab stop or has none, and all other columns are the same.
func TestSetChangesOneColumn(t *testing.T) {
	eachList(func(l []bool) {
		for col := range l {
			for _, on := range []bool{true, false} {
				changed := Set(l, col, on)
				if len(changed) != len(l) || changed[col] != on || !slices.Equal(changed[:col], l[:col]) || !slices.Equal(changed[col+1:], l[col+1:]) {
					t.Fatalf("Set(%v, %d, %t) = %v", l, col, on, changed)
				}
				if !slices.Equal(Set(changed, col, on), changed) || !slices.Equal(Set(changed, col, l[col]), l) {
					t.Fatalf("Set after Set(%v, %d, %t) is wrong", l, col, on)
				}
			}
		}
		for _, col := range columnsAround(l)[len(l):] {
			if !slices.Equal(Set(l, col, true), l) || !slices.Equal(Set(l, col, false), l) {
				t.Fatalf("Set changes %v at column %d, which does not exist", l, col)
			}
		}
	})
}

// P9.3: the columns that are in both widths keep their tab stops, and a column that was cut off comes back with the default.
func TestResizeKeepsWhatRemains(t *testing.T) {
	eachList(func(l []bool) {
		for _, width := range widthsAround(l) {
			resized := Resize(l, width)
			kept := min(len(l), chapterWidth(width))
			if len(resized) != chapterWidth(width) || !slices.Equal(resized[:kept], l[:kept]) || !slices.Equal(resized[kept:], chapterNew(width)[kept:]) {
				t.Fatalf("Resize(%v, %d) = %v", l, width, resized)
			}
			again := Resize(resized, len(l))
			back := min(len(l), 1000)
			if len(again) != back || !slices.Equal(again[:kept], l[:kept]) || !slices.Equal(again[kept:], chapterNew(len(l))[kept:]) {
				t.Fatalf("Resize of Resize(%v, %d) to the first width = %v", l, width, again)
			}
		}
	})
}

// P9.3: the default tab stops stay the default ones at every width.
func TestResizeOfDefault(t *testing.T) {
	for _, from := range []int{0, 1, 7, 8, 9, 80, 999, 1000, 1001} {
		for width := -2; width <= 1002; width++ {
			if !slices.Equal(Resize(New(from), width), chapterNew(width)) {
				t.Fatalf("Resize(New(%d), %d) = %v", from, width, Resize(New(from), width))
			}
		}
	}
}
