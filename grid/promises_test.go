package grid

import (
	"math"
	"slices"
	"testing"

	"narrator/api"
	"narrator/cellrow"
)

// eachTestedGrid calls a function with small grids and with large ones.
func eachTestedGrid(use func(g api.Grid)) {
	eachSmallGrid(5, 6, use)
	eachLargeGrid(use)
}

// stepIn returns the distance of the numbers that are tried up to a number: all of them if it is small.
func stepIn(high int) int {
	if high <= 6 {
		return 1
	}
	return high / 3
}

// eachRange calls a function with the ranges of a grid that are not empty: all of a low one, and some of a high one.
func eachRange(g api.Grid, use func(top, bottom int)) {
	step := stepIn(g.Height)
	for top := 0; top < g.Height; top += step {
		for bottom := top + 1; bottom < g.Height; bottom += step {
			use(top, bottom)
		}
		use(top, g.Height)
	}
	use(g.Height-1, g.Height)
}

// distancesIn returns the distances that a range of this size can be scrolled by: all of a small one, and some of a large one.
func distancesIn(size int) []int {
	distances := []int{}
	for by := 0; by < size; by += stepIn(size) {
		distances = append(distances, by)
	}
	return append(distances, size)
}

// checkProper reports a grid that is not proper or has another size.
func checkProper(t *testing.T, g api.Grid, e api.Errno, width, height int) {
	t.Helper()
	if e != api.OK {
		t.Fatalf("error %d", e)
	}
	isBad := func(l []api.Cell) bool { return len(l) != width || cellrow.Check(l) != api.OK }
	if g.Width != width || g.Height != height || len(g.Rows) != height || slices.ContainsFunc(g.Rows, isBad) || Check(g) != api.OK {
		t.Fatalf("%v is not a proper grid of %d by %d", g, width, height)
	}
}

// mustScroll scrolls a grid by valid arguments.
func mustScroll(t *testing.T, g api.Grid, top, bottom, by int) (api.Grid, [][]api.Cell) {
	t.Helper()
	scrolled, gone, e := Scroll(g, top, bottom, by, blue)
	if e != api.OK {
		t.Fatalf("Scroll of %v from %d to %d by %d: error %d", g, top, bottom, by, e)
	}
	return scrolled, gone
}

// mustResize resizes a grid to a valid size.
func mustResize(t *testing.T, g api.Grid, width, height int) api.Grid {
	t.Helper()
	resized, e := Resize(g, width, height)
	if e != api.OK {
		t.Fatalf("Resize of %v to %d by %d: error %d", g, width, height, e)
	}
	return resized
}

// P8.2: every grid that is returned is proper and has its size, and the rows that were moved out are proper as well.
func TestResultsAreProper(t *testing.T) {
	eachTestedGrid(func(g api.Grid) {
		eachRange(g, func(top, bottom int) {
			for _, by := range []int{-99, -1, 0, 2, 99} {
				scrolled, gone, e := Scroll(g, top, bottom, by, blue)
				checkProper(t, scrolled, e, g.Width, g.Height)
				for _, l := range gone {
					if len(l) != g.Width || cellrow.Check(l) != api.OK {
						t.Fatalf("the row %v is not proper", l)
					}
				}
			}
			cleared, e := Clear(g, top, bottom, blue)
			checkProper(t, cleared, e, g.Width, g.Height)
			set, e := Set(g, top, g.Rows[bottom-1])
			checkProper(t, set, e, g.Width, g.Height)
		})
		for _, width := range []int{1, 2, 3, 6, 81, 132} {
			for _, height := range []int{1, 2, 7, 60} {
				resized, e := Resize(g, width, height)
				checkProper(t, resized, e, width, height)
			}
		}
	})
	for width := 1; width <= 132; width++ {
		for height := 1; height <= 60; height += 1 + width%13 {
			g, e := New(width, height)
			checkProper(t, g, e, width, height)
		}
	}
}

// P8.2: a grid that is cleared of everything is a new grid, and one that is set row by row to another one is that one.
func TestWholeGrids(t *testing.T) {
	eachTestedGrid(func(g api.Grid) {
		blank, e := New(g.Width, g.Height)
		checkProper(t, blank, e, g.Width, g.Height)
		if cleared, e := Clear(g, 0, g.Height, plain); e != api.OK || !same(cleared, blank) {
			t.Fatalf("clearing all of %v yields %v, error %d", g, cleared, e)
		}
		for row, l := range g.Rows {
			if blank, e = Set(blank, row, l); e != api.OK {
				t.Fatalf("Set(%d, %v): error %d", row, l, e)
			}
		}
		if !same(blank, g) {
			t.Fatalf("setting all rows of %v yields %v", g, blank)
		}
	})
}

// P8.3: rows outside of the range remain, and those of the range that are not moved out are there in their order.
func TestScrollingNothingElse(t *testing.T) {
	eachTestedGrid(func(g api.Grid) {
		eachRange(g, func(top, bottom int) {
			size := bottom - top
			for _, distance := range append(distancesIn(size), size+1, math.MaxInt) {
				moved := min(distance, size)
				up, gone := mustScroll(t, g, top, bottom, distance)
				down, none := mustScroll(t, g, top, bottom, -distance)
				for _, s := range []api.Grid{up, down} {
					if !sameRows(s.Rows[:top], g.Rows[:top]) || !sameRows(s.Rows[bottom:], g.Rows[bottom:]) {
						t.Fatalf("scrolling %v from %d to %d by %d changes other rows: %v", g, top, bottom, distance, s)
					}
				}
				if !sameRows(gone, g.Rows[top:top+moved]) || len(none) != 0 {
					t.Fatalf("scrolling %v from %d to %d by %d moves out %v, and %v down", g, top, bottom, distance, gone, none)
				}
				if !sameRows(up.Rows[top:bottom-moved], g.Rows[top+moved:bottom]) || !sameRows(down.Rows[top+moved:bottom], g.Rows[top:bottom-moved]) {
					t.Fatalf("scrolling %v from %d to %d by %d yields %v and %v", g, top, bottom, distance, up, down)
				}
			}
		})
	})
}

// P8.3: scrolling up in two steps is scrolling at once.
func TestScrollingInTwoSteps(t *testing.T) {
	eachTestedGrid(func(g api.Grid) {
		eachRange(g, func(top, bottom int) {
			for _, total := range distancesIn(bottom - top) {
				once, gone := mustScroll(t, g, top, bottom, total)
				for _, first := range distancesIn(total) {
					half, goneFirst := mustScroll(t, g, top, bottom, first)
					twice, goneSecond := mustScroll(t, half, top, bottom, total-first)
					if !same(once, twice) || !sameRows(gone, slices.Concat(goneFirst, goneSecond)) {
						t.Fatalf("scrolling %v from %d to %d by %d and by %d yields %v, want %v", g, top, bottom, first, total-first, twice, once)
					}
				}
			}
		})
	})
}

// P8.3: scrolling up, down, and setting the rows that were moved out restores the grid.
func TestScrollingBack(t *testing.T) {
	eachTestedGrid(func(g api.Grid) {
		eachRange(g, func(top, bottom int) {
			for _, by := range append(distancesIn(bottom-top), math.MaxInt) {
				up, gone := mustScroll(t, g, top, bottom, by)
				back, _ := mustScroll(t, up, top, bottom, -by)
				for i, l := range gone {
					var e api.Errno
					if back, e = Set(back, top+i, l); e != api.OK {
						t.Fatalf("Set(%d, %v): error %d", top+i, l, e)
					}
				}
				if !same(back, g) {
					t.Fatalf("scrolling %v from %d to %d by %d and back yields %v", g, top, bottom, by, back)
				}
			}
		})
	})
}

// P8.4: resizing to the same size, or to a larger size and back, restores the grid.
func TestResizingBack(t *testing.T) {
	eachTestedGrid(func(g api.Grid) {
		for _, width := range []int{g.Width, g.Width + 1, g.Width + 2, 81, 131, 132} {
			for _, height := range []int{g.Height, g.Height + 1, g.Height + 2, 25, 59, 60} {
				if width < g.Width || width > 132 || height < g.Height || height > 60 {
					continue
				}
				larger := mustResize(t, g, width, height)
				if back := mustResize(t, larger, g.Width, g.Height); !same(back, g) {
					t.Fatalf("resizing %v to %d by %d and back yields %v", g, width, height, back)
				}
			}
		}
		if got := mustResize(t, g, g.Width, g.Height); !same(got, g) {
			t.Fatalf("resizing %v to its own size yields %v", g, got)
		}
	})
}

// P8.4: resizing to a smaller size and then to a still smaller one is resizing at once.
func TestResizingInTwoSteps(t *testing.T) {
	eachTestedGrid(func(g api.Grid) {
		for _, width := range distancesIn(g.Width)[1:] {
			for _, height := range distancesIn(g.Height)[1:] {
				smaller := mustResize(t, g, width, height)
				for _, w := range []int{1, 2, 3, width / 2, width - 1, width} {
					for _, h := range []int{1, height / 2, height} {
						if w < 1 || w > width || h < 1 {
							continue
						}
						twice, once := mustResize(t, smaller, w, h), mustResize(t, g, w, h)
						if !same(twice, once) {
							t.Fatalf("resizing %v to %d by %d and to %d by %d yields %v, want %v", g, width, height, w, h, twice, once)
						}
					}
				}
			}
		}
	})
}
