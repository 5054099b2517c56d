package scrollback

import (
	"math"
	"math/rand"
	"slices"
	"testing"

	"narrator/api"
	"narrator/cellrow"
	"narrator/grid"
)

// sizes are numbers of rows that are small, and around half a scrollback and a whole one.
var sizes = []int{0, 1, 2, 3, 249, 250, 251, 499, 500, 501, 700}

// P12.2: pushing rows in two steps is pushing them at once.
func TestPushingInTwoSteps(t *testing.T) {
	for _, n := range sizes {
		for _, total := range sizes {
			b, rows := anyRows("old", n), anyRows("new", total)
			once := Push(b, rows)
			for _, first := range append(someNumbers(total), 249, 250, 499, 500, 501) {
				if first < 0 || first > total {
					continue
				}
				if twice := Push(Push(b, rows[:first]), rows[first:]); !sameRows(twice, once) {
					t.Fatalf("pushing %d of %d rows to %d first yields %d rows, want %d", first, total, n, len(twice), len(once))
				}
			}
		}
	}
}

// P12.2: rows that are pushed one by one.
func TestPushingOneByOne(t *testing.T) {
	rows := anyRows("new", 1100)
	var b [][]api.Cell
	for i, l := range rows {
		b = Push(b, [][]api.Cell{l})
		if want := rows[max(0, i+1-500) : i+1]; !sameRows(b, want) {
			t.Fatalf("after %d rows: %v, want %v", i+1, b, want)
		}
	}
	if once := Push(nil, rows); !sameRows(b, once) {
		t.Errorf("at once: %v, want %v", once, b)
	}
}

// P12.2: there are never more than 500 rows, and the newest one is the last one that was pushed.
func TestPushedRows(t *testing.T) {
	for _, n := range sizes {
		for _, m := range sizes {
			b, rows := anyRows("old", n), anyRows("new", m)
			pushed := Push(b, rows)
			if len(pushed) != min(n+m, 500) {
				t.Fatalf("pushing %d rows to %d yields %d", m, n, len(pushed))
			}
			all := slices.Concat(b, rows)
			if len(all) == 0 {
				continue
			}
			if l, e := Line(pushed, 0); e != api.OK || !slices.Equal(l, all[len(all)-1]) {
				t.Fatalf("pushing %d rows to %d: the newest one is %v, error %d", m, n, l, e)
			}
		}
	}
}

// eachWindowed calls a function with grids and proper scrollbacks of many sizes.
func eachWindowed(use func(b [][]api.Cell, g api.Grid)) {
	random := rand.New(rand.NewSource(14))
	for width := 1; width <= 5; width++ {
		for height := 1; height <= 6; height++ {
			for n := range 9 {
				use(shapedBack(n, width, random), shapedGrid(width, height, random))
			}
		}
	}
	for _, size := range [][2]int{{132, 60}, {1, 60}, {132, 1}, {1, 1}, {80, 24}} {
		for _, n := range []int{0, 1, 23, 60, 61, 130} {
			use(shapedBack(n, size[0], random), shapedGrid(size[0], size[1], random))
		}
	}
	use(shapedBack(500, 3, random), shapedGrid(3, 60, random))
	use(shapedBack(510, 3, random), shapedGrid(3, 2, random))
}

// mustWindow returns the window for valid arguments.
func mustWindow(t *testing.T, b [][]api.Cell, g api.Grid, back int) api.Grid {
	t.Helper()
	w, e := Window(b, g, back)
	if e != api.OK {
		t.Fatalf("Window of %d rows and %v, back by %d: error %d", len(b), g, back, e)
	}
	return w
}

// P12.3: without scrolling back, the window is the grid, whatever the scrollback is.
func TestWindowWithoutScrolling(t *testing.T) {
	eachWindowed(func(b [][]api.Cell, g api.Grid) {
		for _, rows := range [][][]api.Cell{b, nil, anyRows("old", 5)} {
			if w := mustWindow(t, rows, g, 0); !same(w, g) {
				t.Fatalf("the window of %v is %v", g, w)
			}
		}
	})
}

// P12.3: each further row moves the rows of the window down by one, and the next older row of the scrollback is above them.
func TestScrollingBackByOne(t *testing.T) {
	eachWindowed(func(b [][]api.Cell, g api.Grid) {
		last := g.Height - 1
		for back := range len(b) {
			w, next := mustWindow(t, b, g, back), mustWindow(t, b, g, back+1)
			if !sameRows(next.Rows[1:], w.Rows[:last]) {
				t.Fatalf("back by %d: %v, and by one more: %v", back, w, next)
			}
			l, e := Line(b, back)
			if e != api.OK || !slices.Equal(next.Rows[0], cellrow.Fit(l, g.Width)) {
				t.Fatalf("back by %d: the first row is %v, want %v, error %d", back+1, next.Rows[0], l, e)
			}
		}
	})
}

// P12.3: every window is a proper grid of the size of the grid.
func TestWindowsAreProper(t *testing.T) {
	eachWindowed(func(b [][]api.Cell, g api.Grid) {
		for back := 0; back <= len(b); back++ {
			w := mustWindow(t, b, g, back)
			if grid.Check(w) != api.OK || w.Width != g.Width || w.Height != g.Height {
				t.Fatalf("back by %d: %v is not a proper grid of %d by %d", back, w, g.Width, g.Height)
			}
		}
	})
}

// scrolled returns a grid that was scrolled up, and the scrollback with the rows that were moved out, and how many they are.
func scrolled(t *testing.T, b [][]api.Cell, g api.Grid, by int) ([][]api.Cell, api.Grid, int) {
	t.Helper()
	up, gone, e := grid.Scroll(g, 0, g.Height, by, red)
	if e != api.OK {
		t.Fatalf("Scroll of %v by %d: error %d", g, by, e)
	}
	return Push(b, gone), up, len(gone)
}

// P12.4: scrolling back by as many rows as were moved out shows the grid as it was before, whatever the scrollback was.
func TestContinuity(t *testing.T) {
	eachWindowed(func(b [][]api.Cell, g api.Grid) {
		for _, old := range [][][]api.Cell{b, nil, anyRows("old", 7), anyRows("old", 500)} {
			for _, by := range append(someNumbers(g.Height), 3, 59) {
				if by < 0 {
					continue
				}
				pushed, up, n := scrolled(t, old, g, by)
				if n != min(by, g.Height) {
					t.Fatalf("scrolling %v by %d moves %d rows out", g, by, n)
				}
				if w := mustWindow(t, pushed, up, n); !same(w, g) {
					t.Fatalf("scrolling %v up by %d and back yields %v", g, by, w)
				}
			}
		}
	})
}

// P12.4: a grid that is scrolled up again and again is shown at each of the steps before.
func TestContinuityOfManySteps(t *testing.T) {
	random := rand.New(rand.NewSource(15))
	for _, height := range []int{1, 2, 3, 24, 60} {
		b, g := anyRows("old", 480), shapedGrid(4, height, random)
		seen, moved := []api.Grid{}, []int{}
		for total := 0; total < 440; {
			seen, moved = append(seen, g), append(moved, total)
			var n int
			b, g, n = scrolled(t, b, g, 1+random.Intn(height+1))
			total += n
			for i, before := range seen {
				if back := total - moved[i]; !same(mustWindow(t, b, g, back), before) {
					t.Fatalf("height %d: back by %d: not the grid before step %d of %d", height, back, i, len(seen))
				}
			}
			// A program writes to the rows at the bottom before the grid is scrolled again.
			if g, _ = grid.Set(g, height-1, shapedRow(4, random)); grid.Check(g) != api.OK {
				t.Fatal("the grid is not proper")
			}
		}
	}
}

// P12.4: the grid is shown even if the rows that were moved out fill a scrollback that was full, and if the numbers of rows are huge.
func TestContinuityOfFullScrollbacks(t *testing.T) {
	g := gridOf(rowsOf(plain, "ab", "cd", "ef"))
	for _, n := range []int{497, 498, 499, 500, 501, 900} {
		pushed, up, gone := scrolled(t, anyRows("old", n), g, math.MaxInt)
		if len(pushed) != 500 || gone != 3 || texts(up.Rows) != "##|##|##" {
			t.Errorf("%d rows: %d rows, %d moved out, %v", n, len(pushed), gone, up)
		}
		if w := mustWindow(t, pushed, up, 3); texts(w.Rows) != "ab|cd|ef" {
			t.Errorf("%d rows: the window is %v", n, w)
		}
	}
}
