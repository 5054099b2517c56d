package cursor

import (
	"math"
	"testing"

	"narrator/api"
)

// sample returns the bounds of the chapter's examples.
func sample() api.Bounds { return api.Bounds{Width: 10, Height: 5, Top: 1, Bottom: 4} }

// sampleWith returns the bounds of the chapter's examples with another scroll region.
func sampleWith(top, bottom int) api.Bounds {
	return api.Bounds{Width: 10, Height: 5, Top: top, Bottom: bottom}
}

// improper returns bounds that are not proper, each for one reason.
func improper() []api.Bounds {
	return []api.Bounds{
		{}, {Width: 0, Height: 5, Top: 1, Bottom: 4}, {Width: -1, Height: 5, Top: 1, Bottom: 4}, {Width: 133, Height: 5, Top: 1, Bottom: 4},
		{Width: math.MaxInt, Height: 5, Top: 1, Bottom: 4}, {Width: math.MinInt, Height: 5, Top: 1, Bottom: 4}, {Width: 1<<32 + 10, Height: 5, Top: 1, Bottom: 4},
		{Width: 10, Height: 0, Top: 0, Bottom: 1}, {Width: 10, Height: -1, Top: 0, Bottom: 1}, {Width: 10, Height: 61, Top: 1, Bottom: 4}, {Width: 10, Height: 61, Bottom: 61},
		{Width: 10, Height: math.MaxInt, Top: 1, Bottom: 4}, {Width: 10, Height: math.MinInt, Top: 1, Bottom: 4}, {Width: 10, Height: 1<<32 + 5, Top: 1, Bottom: 4},
		sampleWith(-1, 4), sampleWith(math.MinInt, 4), sampleWith(4, 4), sampleWith(0, 0), sampleWith(5, 5), sampleWith(5, 4), sampleWith(math.MaxInt, 4), sampleWith(-1<<32, 4),
		sampleWith(1, 6), sampleWith(1, 0), sampleWith(1, -1), sampleWith(-2, -1), sampleWith(1, math.MaxInt), sampleWith(1, math.MinInt), sampleWith(1, 1<<32+4),
		{Width: 10, Height: 60, Bottom: 61}, {Width: 132, Height: 60, Top: 60, Bottom: 60}, {Width: 132, Height: 60, Top: 60, Bottom: 61},
		{Width: math.MinInt, Height: math.MinInt, Top: math.MinInt, Bottom: math.MinInt}, {Width: math.MaxInt, Height: math.MaxInt, Top: math.MaxInt, Bottom: math.MaxInt},
	}
}

// withOrigin returns bounds with Origin true.
func withOrigin(b api.Bounds) api.Bounds {
	b.Origin = true
	return b
}

// The chapter's examples.
func TestExamples(t *testing.T) {
	if got := Up(at(2, 0), 9, sample()); got != at(1, 0) {
		t.Errorf("Up from row 2 leads to %v", got)
	}
	if got := Up(at(4, 0), 9, sample()); got != at(0, 0) {
		t.Errorf("Up from row 4 leads to %v", got)
	}
	if got, scrolls := Feed(at(3, 0), sample()); got != at(3, 0) || scrolls != 1 {
		t.Errorf("Feed in row 3 returns %v, %d", got, scrolls)
	}
}

// P10.1: proper bounds at each limit, and bounds that are not proper.
func TestCheck(t *testing.T) {
	for _, b := range []api.Bounds{
		sample(), {Width: 1, Height: 1, Top: 0, Bottom: 1}, {Width: 1, Height: 60, Top: 0, Bottom: 60}, {Width: 132, Height: 1, Top: 0, Bottom: 1},
		{Width: 132, Height: 60, Top: 0, Bottom: 60}, {Width: 132, Height: 60, Top: 59, Bottom: 60}, {Width: 132, Height: 60, Top: 0, Bottom: 1},
		sampleWith(0, 5), sampleWith(0, 1), sampleWith(3, 4), sampleWith(4, 5), sampleWith(0, 4), sampleWith(1, 5),
	} {
		if Check(b) != api.OK || Check(withOrigin(b)) != api.OK {
			t.Errorf("Check(%v) = %d", b, Check(b))
		}
	}
	for _, b := range improper() {
		if Check(b) != api.ErrRange || Check(withOrigin(b)) != api.ErrRange {
			t.Errorf("Check(%v) = %d", b, Check(b))
		}
	}
}

// P10.1: Check is as the chapter defines it, for all combinations of numbers at and beyond the limits.
func TestCheckAsDefined(t *testing.T) {
	proper := 0
	rows := numbersAround(0, 2, 60, 61)
	for _, width := range numbersAround(0, 2, 132, 133) {
		for _, height := range rows {
			for _, top := range rows {
				for _, bottom := range rows {
					b := api.Bounds{Width: width, Height: height, Top: top, Bottom: bottom, Origin: (top+bottom)&1 == 1}
					want := api.ErrRange
					if chapterProper(b) {
						want = api.OK
						proper++
					}
					if got := Check(b); got != want {
						t.Fatalf("Check(%v) = %d, want %d", b, got, want)
					}
				}
			}
		}
	}
	if proper == 0 {
		t.Error("no bounds are proper")
	}
}

// P10.1: within bounds that are not proper, all functions return the zero cursor and 0.
func TestImproperBounds(t *testing.T) {
	zero := api.Cursor{}
	for _, plain := range improper() {
		for _, b := range []api.Bounds{plain, withOrigin(plain)} {
			for _, c := range []api.Cursor{zero, at(2, 3), pendingAt(3, 9), pendingAt(0, 0), at(-1, -1), pendingAt(99, 199), pendingAt(math.MaxInt, math.MinInt)} {
				for _, n := range append([]int{-1, 0, 1, 3}, hugeNumbers...) {
					for i, got := range []api.Cursor{Clamp(c, b), Up(c, n, b), Right(c, n, b), To(c, n, 4, b), To(c, 2, n, b)} {
						if got != zero {
							t.Fatalf("within %v, function %d of %v and %d returns %v", b, i, c, n, got)
						}
					}
				}
				fed, down := Feed(c, b)
				back, up := Reverse(c, b)
				if fed != zero || back != zero || down != 0 || up != 0 {
					t.Fatalf("within %v, from %v Feed returns %v, %d, and Reverse %v, %d", b, c, fed, down, back, up)
				}
			}
		}
	}
}

// P10.1: cursors inside, on each edge and outside on each side; Pending in the last column, before it and behind it.
func TestClamp(t *testing.T) {
	for _, c := range []struct{ from, want api.Cursor }{
		{at(2, 3), at(2, 3)}, {at(0, 0), at(0, 0)}, {at(0, 9), at(0, 9)}, {at(4, 0), at(4, 0)}, {at(4, 9), at(4, 9)},
		{at(-1, 3), at(0, 3)}, {at(5, 3), at(4, 3)}, {at(2, -1), at(2, 0)}, {at(2, 10), at(2, 9)}, {at(-1, 10), at(0, 9)}, {at(5, -1), at(4, 0)},
		{at(math.MinInt, math.MaxInt), at(0, 9)}, {at(math.MaxInt, math.MinInt), at(4, 0)}, {at(1<<32+2, -1<<32+3), at(4, 0)},
		{pendingAt(2, 9), pendingAt(2, 9)}, {pendingAt(0, 9), pendingAt(0, 9)}, {pendingAt(4, 9), pendingAt(4, 9)}, {pendingAt(99, 9), pendingAt(4, 9)}, {pendingAt(-99, 9), pendingAt(0, 9)},
		{pendingAt(2, 8), at(2, 8)}, {pendingAt(2, 0), at(2, 0)}, {pendingAt(2, -1), at(2, 0)}, {pendingAt(2, math.MinInt), at(2, 0)},
		{pendingAt(2, 10), pendingAt(2, 9)}, {pendingAt(2, 99), pendingAt(2, 9)}, {pendingAt(2, math.MaxInt), pendingAt(2, 9)}, {pendingAt(5, 10), pendingAt(4, 9)},
	} {
		for _, b := range []api.Bounds{sample(), sampleWith(0, 5), sampleWith(2, 3), withOrigin(sample())} {
			if got := Clamp(c.from, b); got != c.want {
				t.Errorf("Clamp(%v, %v) = %v, want %v", c.from, b, got, c.want)
			}
		}
	}
	narrow := api.Bounds{Width: 1, Height: 1, Bottom: 1}
	for _, c := range []struct{ from, want api.Cursor }{{pendingAt(0, 0), pendingAt(0, 0)}, {at(0, 0), at(0, 0)}, {pendingAt(3, -3), pendingAt(0, 0)}, {pendingAt(-3, 3), pendingAt(0, 0)}} {
		if got := Clamp(c.from, narrow); got != c.want {
			t.Errorf("Clamp(%v, %v) = %v, want %v", c.from, narrow, got, c.want)
		}
	}
}

// P10.1: moves from above, in and below the scroll region, to its edges and the terminal's, and beyond them.
func TestUp(t *testing.T) {
	for _, c := range []struct{ row, n, want int }{
		{0, 0, 0}, {0, 1, 0}, {0, 9, 0}, {0, -1, 1}, {0, -2, 2}, {0, -3, 3}, {0, -4, 4}, {0, -5, 4}, {0, math.MinInt, 4}, {0, math.MaxInt, 0},
		{1, 0, 1}, {1, 1, 1}, {1, -1, 2}, {1, -2, 3}, {1, -3, 3}, {1, math.MinInt, 3}, {1, math.MaxInt, 1},
		{2, 0, 2}, {2, 1, 1}, {2, 2, 1}, {2, 9, 1}, {2, -1, 3}, {2, -2, 3}, {2, math.MinInt, 3}, {2, math.MinInt + 1, 3}, {2, math.MaxInt, 1}, {2, 1 << 32, 1}, {2, -1 << 32, 3},
		{3, 0, 3}, {3, 1, 2}, {3, 2, 1}, {3, 3, 1}, {3, -1, 3}, {3, math.MinInt, 3}, {3, math.MaxInt, 1},
		{4, 0, 4}, {4, 1, 3}, {4, 2, 2}, {4, 3, 1}, {4, 4, 0}, {4, 5, 0}, {4, -1, 4}, {4, math.MinInt, 4}, {4, math.MaxInt, 0},
		{-1, -1, 1}, {-9, 0, 0}, {-9, -9, 4}, {math.MinInt, -2, 2}, {math.MinInt, math.MaxInt, 0}, {5, 1, 3}, {99, 0, 4}, {99, 4, 0}, {math.MaxInt, 2, 2}, {math.MaxInt, math.MinInt, 4},
	} {
		for _, b := range []api.Bounds{sample(), withOrigin(sample())} {
			if got := Up(at(c.row, 3), c.n, b); got != at(c.want, 3) {
				t.Errorf("Up from row %d by %d leads to %v, want row %d", c.row, c.n, got, c.want)
			}
		}
	}
	for _, c := range []struct{ row, n, top, bottom, want int }{
		{2, 9, 0, 5, 0}, {2, -9, 0, 5, 4}, {0, -9, 0, 5, 4}, {4, 9, 0, 5, 0}, {5, 9, 0, 5, 0},
		{2, 1, 2, 3, 2}, {2, -1, 2, 3, 2}, {3, 1, 2, 3, 2}, {1, -1, 2, 3, 2}, {3, 2, 2, 3, 1}, {1, -2, 2, 3, 3},
		{0, -9, 0, 1, 0}, {1, 9, 0, 1, 0}, {-3, -9, 0, 1, 0}, {4, 9, 4, 5, 4}, {3, -9, 4, 5, 4}, {9, 9, 4, 5, 4},
	} {
		if got := Up(at(c.row, 3), c.n, sampleWith(c.top, c.bottom)); got != at(c.want, 3) {
			t.Errorf("with the scroll region from %d to %d, Up from row %d by %d leads to %v, want row %d", c.top, c.bottom-1, c.row, c.n, got, c.want)
		}
	}
}

// P10.1: moves to both edges and beyond them, also of cursors outside.
func TestRight(t *testing.T) {
	for _, c := range []struct{ col, n, want int }{
		{3, 0, 3}, {3, 1, 4}, {3, 5, 8}, {3, 6, 9}, {3, 7, 9}, {3, 99, 9}, {3, -1, 2}, {3, -3, 0}, {3, -4, 0}, {3, -99, 0},
		{3, math.MaxInt, 9}, {3, math.MinInt, 0}, {3, math.MinInt + 1, 0}, {3, 1 << 32, 9}, {3, -1 << 32, 0},
		{0, -1, 0}, {0, 0, 0}, {0, 9, 9}, {0, 10, 9}, {0, math.MaxInt, 9}, {9, 1, 9}, {9, 0, 9}, {9, -9, 0}, {9, -10, 0}, {9, math.MinInt, 0}, {9, math.MaxInt, 9},
		{-1, 0, 0}, {-1, 1, 1}, {-9, 2, 2}, {10, 0, 9}, {10, -1, 8}, {99, -2, 7}, {math.MinInt, 3, 3}, {math.MinInt, math.MaxInt, 9}, {math.MaxInt, -3, 6}, {math.MaxInt, math.MinInt, 0},
	} {
		for _, b := range []api.Bounds{sample(), sampleWith(0, 5), withOrigin(sample())} {
			for row := range 5 {
				if got := Right(at(row, c.col), c.n, b); got != at(row, c.want) {
					t.Errorf("Right from %d, %d by %d leads to %v, want column %d", row, c.col, c.n, got, c.want)
				}
			}
		}
	}
	for row, want := range map[int]int{-1: 0, math.MinInt: 0, 5: 4, math.MaxInt: 4} {
		if got := Right(at(row, 3), 2, sample()); got != at(want, 5) {
			t.Errorf("Right from row %d leads to %v, want row %d", row, got, want)
		}
	}
}

// P10.1: positions counted from 1 and from the top margin: 0, 1, the last one, the one behind it, negative and huge ones.
func TestTo(t *testing.T) {
	for _, c := range []struct{ row, want, wantWithOrigin int }{
		{1, 0, 1}, {2, 1, 2}, {3, 2, 3}, {4, 3, 3}, {5, 4, 3}, {6, 4, 3}, {99, 4, 3}, {0, 0, 1}, {-1, 0, 1}, {-99, 0, 1},
		{math.MaxInt, 4, 3}, {math.MaxInt - 1, 4, 3}, {math.MinInt, 0, 1}, {math.MinInt + 1, 0, 1}, {1<<32 + 2, 4, 3}, {-1<<32 + 2, 0, 1},
	} {
		for _, from := range []api.Cursor{at(2, 3), pendingAt(0, 9), at(-9, 99), pendingAt(math.MaxInt, math.MinInt)} {
			if got := To(from, c.row, 4, sample()); got != at(c.want, 3) {
				t.Errorf("To row %d from %v leads to %v, want row %d", c.row, from, got, c.want)
			}
			if got := To(from, c.row, 4, withOrigin(sample())); got != at(c.wantWithOrigin, 3) {
				t.Errorf("with Origin, To row %d from %v leads to %v, want row %d", c.row, from, got, c.wantWithOrigin)
			}
		}
	}
	for _, c := range []struct{ col, want int }{
		{1, 0}, {2, 1}, {9, 8}, {10, 9}, {11, 9}, {99, 9}, {0, 0}, {-1, 0}, {-99, 0},
		{math.MaxInt, 9}, {math.MaxInt - 1, 9}, {math.MinInt, 0}, {math.MinInt + 1, 0}, {1<<32 + 2, 9}, {-1<<32 + 2, 0},
	} {
		if got := To(at(2, 3), 2, c.col, sample()); got != at(1, c.want) {
			t.Errorf("To column %d leads to %v, want column %d", c.col, got, c.want)
		}
		if got := To(at(2, 3), 2, c.col, withOrigin(sample())); got != at(2, c.want) {
			t.Errorf("with Origin, To column %d leads to %v, want column %d", c.col, got, c.want)
		}
	}
}

// P10.1: with Origin, positions within a scroll region of one row, and within one that is the whole terminal.
func TestToWithOrigin(t *testing.T) {
	for _, c := range []struct{ top, bottom, row, want int }{
		{0, 5, 1, 0}, {0, 5, 5, 4}, {0, 5, 6, 4}, {0, 5, 0, 0}, {0, 1, 1, 0}, {0, 1, 2, 0}, {4, 5, 1, 4}, {4, 5, 2, 4}, {4, 5, -9, 4},
		{2, 3, 1, 2}, {2, 3, 2, 2}, {2, 3, 0, 2}, {2, 3, math.MaxInt, 2}, {2, 3, math.MinInt, 2}, {2, 5, 3, 4}, {2, 5, 4, 4}, {2, 5, math.MaxInt - 1, 4}, {0, 3, 3, 2}, {0, 3, 4, 2},
	} {
		if got := To(at(2, 3), c.row, 1, withOrigin(sampleWith(c.top, c.bottom))); got != at(c.want, 0) {
			t.Errorf("with Origin and the scroll region from %d to %d, To row %d leads to %v, want row %d", c.top, c.bottom-1, c.row, got, c.want)
		}
	}
}

// P10.1: Feed and Reverse in each row, in the first and the last row of the scroll region and of the terminal, where these agree and where they do not.
func TestFeedAndReverse(t *testing.T) {
	for _, c := range []struct{ top, bottom, row, feed, down, reverse, up int }{
		{1, 4, 0, 1, 0, 0, 0}, {1, 4, 1, 2, 0, 1, 1}, {1, 4, 2, 3, 0, 1, 0}, {1, 4, 3, 3, 1, 2, 0}, {1, 4, 4, 4, 0, 3, 0},
		{0, 5, 0, 1, 0, 0, 1}, {0, 5, 2, 3, 0, 1, 0}, {0, 5, 4, 4, 1, 3, 0},
		{0, 3, 0, 1, 0, 0, 1}, {0, 3, 2, 2, 1, 1, 0}, {0, 3, 3, 4, 0, 2, 0}, {0, 3, 4, 4, 0, 3, 0},
		{2, 5, 0, 1, 0, 0, 0}, {2, 5, 1, 2, 0, 0, 0}, {2, 5, 2, 3, 0, 2, 1}, {2, 5, 4, 4, 1, 3, 0},
		{2, 3, 1, 2, 0, 0, 0}, {2, 3, 2, 2, 1, 2, 1}, {2, 3, 3, 4, 0, 2, 0},
		{0, 1, 0, 0, 1, 0, 1}, {0, 1, 1, 2, 0, 0, 0}, {4, 5, 4, 4, 1, 4, 1}, {4, 5, 3, 4, 0, 2, 0},
		{1, 4, -1, 1, 0, 0, 0}, {1, 4, math.MinInt, 1, 0, 0, 0}, {1, 4, 5, 4, 0, 3, 0}, {1, 4, math.MaxInt, 4, 0, 3, 0}, {1, 4, 1<<32 + 2, 4, 0, 3, 0},
		{0, 5, -1, 1, 0, 0, 1}, {0, 5, math.MinInt, 1, 0, 0, 1}, {0, 5, 5, 4, 1, 3, 0}, {0, 5, math.MaxInt, 4, 1, 3, 0},
	} {
		for _, b := range []api.Bounds{sampleWith(c.top, c.bottom), withOrigin(sampleWith(c.top, c.bottom))} {
			if got, scrolls := Feed(at(c.row, 3), b); got != at(c.feed, 3) || scrolls != c.down {
				t.Errorf("Feed in row %d of %v returns %v, %d, want row %d, %d", c.row, b, got, scrolls, c.feed, c.down)
			}
			if got, scrolls := Reverse(at(c.row, 3), b); got != at(c.reverse, 3) || scrolls != c.up {
				t.Errorf("Reverse in row %d of %v returns %v, %d, want row %d, %d", c.row, b, got, scrolls, c.reverse, c.up)
			}
		}
	}
	smallest := api.Bounds{Width: 1, Height: 1, Bottom: 1}
	if got, scrolls := Feed(pendingAt(0, 0), smallest); got != at(0, 0) || scrolls != 1 {
		t.Errorf("Feed in the only cell returns %v, %d", got, scrolls)
	}
	if got, scrolls := Reverse(pendingAt(0, 0), smallest); got != at(0, 0) || scrolls != 1 {
		t.Errorf("Reverse in the only cell returns %v, %d", got, scrolls)
	}
}

// P10.1: Pending is false after every movement, also after one that leads nowhere, and the column is limited.
func TestMovesEndPending(t *testing.T) {
	for _, col := range []int{9, 10, 99, math.MaxInt} {
		for _, row := range []int{0, 1, 2, 3, 4} {
			from := pendingAt(row, col)
			fed, _ := Feed(from, sample())
			back, _ := Reverse(from, sample())
			for _, c := range []struct{ got, want api.Cursor }{
				{Up(from, 0, sample()), at(row, 9)}, {Right(from, 0, sample()), at(row, 9)}, {Right(from, 1, sample()), at(row, 9)}, {Right(from, -1, sample()), at(row, 8)},
				{To(from, row+1, 10, sample()), at(row, 9)}, {To(from, row+1, 99, sample()), at(row, 9)}, {fed, at(fed.Row, 9)}, {back, at(back.Row, 9)},
			} {
				if c.got != c.want {
					t.Errorf("a move from %v leads to %v, want %v", from, c.got, c.want)
				}
			}
		}
	}
}

// P10.1: Clamp, Up, Right, Feed and Reverse are as the chapter defines them, for all small bounds and for large ones.
func TestMovesAsDefined(t *testing.T) {
	compare := func(what string, c api.Cursor, n int, b api.Bounds, got, want api.Cursor) {
		if got != want {
			t.Fatalf("%s(%v, %d, %v) = %v, want %v", what, c, n, b, got, want)
		}
	}
	eachProper(func(b api.Bounds) {
		distances := distancesAround(b)
		eachCursor(b, func(c api.Cursor) {
			compare("Clamp", c, 0, b, Clamp(c, b), chapterClamp(c, b))
			for _, n := range distances {
				compare("Up", c, n, b, Up(c, n, b), chapterUp(c, n, b))
				compare("Right", c, n, b, Right(c, n, b), chapterRight(c, n, b))
			}
			fed, down := Feed(c, b)
			wantFed, wantDown := chapterFeed(c, b)
			compare("Feed", c, down, b, fed, wantFed)
			back, up := Reverse(c, b)
			wantBack, wantUp := chapterReverse(c, b)
			compare("Reverse", c, up, b, back, wantBack)
			if down != wantDown || up != wantUp {
				t.Fatalf("from %v within %v, Feed scrolls by %d, want %d, and Reverse by %d, want %d", c, b, down, wantDown, up, wantUp)
			}
		})
	})
}

// P10.1: To is as the chapter defines it, for all small bounds and for large ones, from any cursor.
func TestToAsDefined(t *testing.T) {
	eachProper(func(b api.Bounds) {
		last := at(b.Height-1, b.Width-1)
		for _, c := range []api.Cursor{at(0, 0), last, pendingAt(last.Row, last.Col), at(-1, 999), pendingAt(math.MaxInt, math.MinInt)} {
			for _, row := range numbersAround(1, b.Top, b.Bottom, b.Bottom-b.Top, b.Height, b.Height-b.Top) {
				for _, col := range colsAround(b) {
					if got, want := To(c, row, col, b), chapterTo(row, col, b); got != want {
						t.Fatalf("To(%v, %d, %d, %v) = %v, want %v", c, row, col, b, got, want)
					}
				}
			}
		}
	})
}
