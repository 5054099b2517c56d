package cursor

import (
	"math"
	"testing"

	"narrator/api"
)

// fed returns the cursor that Feed returns.
func fed(c api.Cursor, b api.Bounds) api.Cursor {
	to, _ := Feed(c, b)
	return to
}

// reversed returns the cursor that Reverse returns.
func reversed(c api.Cursor, b api.Bounds) api.Cursor {
	to, _ := Reverse(c, b)
	return to
}

// P10.2: all returned cursors are inside proper bounds, and have Pending only if Clamp kept it in the last column.
func TestReturnedCursorsAreInside(t *testing.T) {
	eachProper(func(b api.Bounds) {
		distances := distancesAround(b)
		eachCursor(b, func(c api.Cursor) {
			clamped := Clamp(c, b)
			if !chapterInside(clamped, b) || clamped.Pending && (!c.Pending || clamped.Col != b.Width-1) {
				t.Fatalf("Clamp(%v, %v) = %v", c, b, clamped)
			}
			for _, to := range []api.Cursor{fed(c, b), reversed(c, b)} {
				if !chapterInside(to, b) || to.Pending {
					t.Fatalf("Feed or Reverse from %v leads to %v within %v", c, to, b)
				}
			}
			for _, n := range distances {
				for _, to := range []api.Cursor{Up(c, n, b), Right(c, n, b), To(c, n, 1, b), To(c, 1, n, b), To(c, n, n, b)} {
					if !chapterInside(to, b) || to.Pending {
						t.Fatalf("a move by or to %d from %v leads to %v within %v", n, c, to, b)
					}
				}
			}
		})
	})
}

// P10.2: a cursor that is inside stays where it is when it is limited.
func TestClampKeepsCursorsInside(t *testing.T) {
	eachProper(func(b api.Bounds) {
		eachCursor(b, func(c api.Cursor) {
			if chapterInside(c, b) && !c.Pending && Clamp(c, b) != c {
				t.Fatalf("Clamp(%v, %v) = %v", c, b, Clamp(c, b))
			}
			if once := Clamp(c, b); Clamp(once, b) != once {
				t.Fatalf("Clamp(%v, %v) = %v", once, b, Clamp(once, b))
			}
		})
	})
}

// P10.2: a cursor in the scroll region stays in it.
func TestScrollRegionIsKept(t *testing.T) {
	eachProper(func(b api.Bounds) {
		distances := distancesAround(b)
		eachCursor(b, func(c api.Cursor) {
			if !chapterInRegion(Clamp(c, b).Row, b) {
				return
			}
			if !chapterInRegion(fed(c, b).Row, b) || !chapterInRegion(reversed(c, b).Row, b) {
				t.Fatalf("from %v within %v, Feed leads to %v and Reverse to %v", c, b, fed(c, b), reversed(c, b))
			}
			for _, n := range distances {
				if to := Up(c, n, b); !chapterInRegion(to.Row, b) {
					t.Fatalf("Up(%v, %d, %v) = %v", c, n, b, to)
				}
			}
		})
	})
}

// eachPairOfDistances calls a function with distances that are not negative, have a sum, and lie at and around the edges of bounds.
func eachPairOfDistances(b api.Bounds, use func(m, n int)) {
	distances := []int{0, 1, 2, b.Top, b.Bottom - b.Top, b.Bottom, b.Height, b.Width - 1, b.Width, 1<<32 + 1, 1 << 62, math.MaxInt - 1, math.MaxInt}
	for _, m := range distances {
		for _, n := range distances {
			if m <= math.MaxInt-n {
				use(m, n)
			}
		}
	}
}

// P10.3: two moves to the right, or to the left, are one.
func TestRightComposes(t *testing.T) {
	eachProper(func(b api.Bounds) {
		eachPairOfDistances(b, func(m, n int) {
			for _, col := range colsAround(b) {
				c := pendingAt(b.Top, col)
				if got, want := Right(Right(c, m, b), n, b), Right(c, m+n, b); got != want {
					t.Fatalf("Right from %v by %d and %d leads to %v within %v, want %v", c, m, n, got, b, want)
				}
				if got, want := Right(Right(c, -m, b), -n, b), Right(c, -m-n, b); got != want {
					t.Fatalf("Right from %v by %d and %d leads to %v within %v, want %v", c, -m, -n, got, b, want)
				}
			}
		})
	})
}

// P10.3: two moves up, or down, are one, from the scroll region, and from everywhere if it is the whole terminal.
func TestUpComposes(t *testing.T) {
	eachProper(func(b api.Bounds) {
		whole := b.Top == 0 && b.Bottom == b.Height
		eachPairOfDistances(b, func(m, n int) {
			for _, row := range rowsAround(b) {
				c := pendingAt(row, b.Width-1)
				if !whole && !chapterInRegion(Clamp(c, b).Row, b) {
					continue
				}
				if got, want := Up(Up(c, m, b), n, b), Up(c, m+n, b); got != want {
					t.Fatalf("Up from %v by %d and %d leads to %v within %v, want %v", c, m, n, got, b, want)
				}
				if got, want := Up(Up(c, -m, b), -n, b), Up(c, -m-n, b); got != want {
					t.Fatalf("Up from %v by %d and %d leads to %v within %v, want %v", c, -m, -n, got, b, want)
				}
			}
		})
	})
}

// P10.3: from outside the scroll region, two moves are not one: the first of them may lead into it.
func TestUpIntoScrollRegion(t *testing.T) {
	if got := Up(Up(at(4, 3), 2, sample()), 2, sample()); got != at(1, 3) {
		t.Errorf("two moves lead to %v", got)
	}
	if got := Up(at(4, 3), 4, sample()); got != at(0, 3) {
		t.Errorf("one move leads to %v", got)
	}
}

// P10.3: Reverse leads back to where Feed began, if neither scrolls and that is not the last row.
func TestReverseUndoesFeed(t *testing.T) {
	undone := 0
	eachProper(func(b api.Bounds) {
		eachCursor(b, func(c api.Cursor) {
			start := chapterStart(c, b)
			if start.Row == b.Height-1 {
				return
			}
			next, down := Feed(c, b)
			back, up := Reverse(next, b)
			if down != 0 || up != 0 {
				return
			}
			undone++
			if back != start {
				t.Fatalf("within %v, Feed leads from %v to %v and Reverse to %v", b, c, next, back)
			}
		})
	})
	if undone == 0 {
		t.Error("one of Feed and Reverse always scrolls")
	}
}

// P10.3: where Reverse does not undo Feed, one of them scrolls, or the cursor is in the last row.
func TestReverseDoesNotUndoFeed(t *testing.T) {
	for _, c := range []struct{ row, back, down, up int }{{0, 1, 0, 1}, {3, 2, 1, 0}, {4, 3, 0, 0}} {
		next, down := Feed(at(c.row, 3), sample())
		back, up := Reverse(next, sample())
		if back != at(c.back, 3) || down != c.down || up != c.up {
			t.Errorf("from row %d, Feed and Reverse lead to %v and scroll by %d and %d", c.row, back, down, up)
		}
	}
}
