package cellrow

import (
	"math"
	"slices"
	"testing"

	"narrator/api"
)

// eachTestedRow calls a function with all short rows and with long ones.
func eachTestedRow(use func(l []api.Cell)) {
	eachShortRow(7, use)
	eachLongRow(use)
}

// columnsOf returns all columns of a short row, and some of a long one, even and odd ones.
func columnsOf(l []api.Cell) []int {
	step := 1 + len(l)/24*2
	columns := []int{}
	for col := 0; col < len(l); col += step {
		columns = append(columns, col)
	}
	return append(columns, len(l)-1)
}

// checkProper reports a result that is not a proper row of a width.
func checkProper(t *testing.T, l []api.Cell, width int) {
	t.Helper()
	if len(l) != width || chapterCheck(l) != api.OK || Check(l) != api.OK {
		t.Fatalf("%v is not a proper row of %d cells", l, width)
	}
}

// P7.2: the rows that are returned are proper, and as long as the given one or as the given width.
func TestResultsAreProper(t *testing.T) {
	eachTestedRow(func(l []api.Cell) {
		for _, col := range columnsOf(l) {
			for _, c := range []string{"x", "e\u0301", han} {
				if row, e := Put(l, col, c, blue); e == api.OK {
					checkProper(t, row, len(l))
				} else if c != han || col != len(l)-1 {
					t.Fatalf("Put(%v, %d, %q): error %d", l, col, c, e)
				}
			}
			for _, n := range append(columnsOf(l), -1, len(l), math.MaxInt) {
				for _, x := range edits {
					if row, e := x.program(l, col, n, blue); e == api.OK {
						checkProper(t, row, len(l))
					} else if x.name != "Erase" || col <= n && n <= len(l) {
						t.Fatalf("%s(%v, %d, %d): error %d", x.name, l, col, n, e)
					}
				}
			}
		}
		for width := 1; width <= 132; width++ {
			checkProper(t, Fit(l, width), width)
		}
	})
}

// partner returns the column of the other half of the pair to which a column belongs, or else the column itself.
func partner(l []api.Cell, col int) int {
	switch l[col].Width {
	case 2:
		return col + 1
	case 0:
		return col - 1
	}
	return col
}

// P7.3: what is put is there, and the cells remain that are neither replaced nor in a pair with a replaced one.
func TestPutPromise(t *testing.T) {
	eachTestedRow(func(l []api.Cell) {
		for col := range l {
			for c, put := range map[string][]api.Cell{"x": {cell("x", 1, blue)}, han: {cell(han, 2, blue), cell("", 0, blue)}} {
				end := col + len(put)
				if end > len(l) {
					continue
				}
				got, e := Put(l, col, c, blue)
				if e != api.OK || !slices.Equal(got[col:end], put) {
					t.Fatalf("Put(%v, %d, %q) = %v, error %d", l, col, c, got, e)
				}
				for i := range l {
					replaced := func(i int) bool { return col <= i && i < end }
					if !replaced(i) && !replaced(partner(l, i)) && got[i] != l[i] {
						t.Fatalf("Put(%v, %d, %q) = %v: column %d has changed", l, col, c, got, i)
					}
				}
			}
		}
	})
}

// P7.4: deleting what was inserted yields the row whose last columns are erased.
func TestShifting(t *testing.T) {
	eachTestedRow(func(l []api.Cell) {
		for col := range l {
			if l[col].Width == 0 {
				continue
			}
			for _, n := range append(columnsOf(l), -1, len(l), len(l)-col-1, len(l)-col, math.MaxInt) {
				inserted, e := Insert(l, col, n, blue)
				if e != api.OK {
					t.Fatalf("Insert(%v, %d, %d): error %d", l, col, n, e)
				}
				deleted, e := Delete(inserted, col, n, blue)
				if e != api.OK {
					t.Fatalf("Delete(%v, %d, %d): error %d", inserted, col, n, e)
				}
				last := max(0, min(n, len(l)-col))
				erased, e := Erase(l, len(l)-last, len(l), blue)
				if e != api.OK || !slices.Equal(deleted, erased) {
					t.Fatalf("inserting %d at %d of %v and deleting them yields %v, want %v, error %d", n, col, l, deleted, erased, e)
				}
			}
		}
	})
}

// P7.5: erasing in two steps is erasing at once.
func TestErasingInTwoSteps(t *testing.T) {
	eachTestedRow(func(l []api.Cell) {
		columns := append(columnsOf(l), len(l))
		for _, from := range columns {
			for _, middle := range columns {
				for _, to := range columns {
					if from > middle || middle > to {
						continue
					}
					once, e := Erase(l, from, to, blue)
					if e != api.OK {
						t.Fatalf("Erase(%v, %d, %d): error %d", l, from, to, e)
					}
					first, _ := Erase(l, from, middle, blue)
					if second, _ := Erase(first, middle, to, blue); !slices.Equal(second, once) {
						t.Fatalf("erasing %v from %d to %d and to %d yields %v, want %v", l, from, middle, to, second, once)
					}
					last, _ := Erase(l, middle, to, blue)
					if second, _ := Erase(last, from, middle, blue); !slices.Equal(second, once) {
						t.Fatalf("erasing %v from %d to %d, and then from %d, yields %v, want %v", l, middle, to, from, second, once)
					}
				}
			}
		}
	})
}

// P7.5: erasing the whole row yields a blank row.
func TestErasingAll(t *testing.T) {
	eachTestedRow(func(l []api.Cell) {
		for _, a := range changedAttrs {
			if got, e := Erase(l, 0, len(l), a); e != api.OK || !slices.Equal(got, Blank(len(l), a)) {
				t.Fatalf("Erase(%v, 0, %d, %v) = %v, error %d", l, len(l), a, got, e)
			}
		}
	})
}

// P7.5: the cells of the range are blank, and those outside of it remain, but for the halves of separated pairs.
func TestErasingNothingElse(t *testing.T) {
	eachTestedRow(func(l []api.Cell) {
		for _, from := range columnsOf(l) {
			for _, to := range append(columnsOf(l), len(l)) {
				if from > to {
					continue
				}
				got, e := Erase(l, from, to, blue)
				if e != api.OK {
					t.Fatalf("Erase(%v, %d, %d): error %d", l, from, to, e)
				}
				erased := func(i int) bool { return from <= i && i < to }
				for i, c := range got {
					want := l[i]
					switch {
					case erased(i):
						want = chapterBlank(blue.Back)
					case erased(partner(l, i)):
						want = chapterBlank(l[i].Attr.Back)
					}
					if c != want {
						t.Fatalf("Erase(%v, %d, %d) = %v: column %d is wrong", l, from, to, got, i)
					}
				}
			}
		}
	})
}

// P7.6: a row that is fitted to its own length is unchanged.
func TestFittingToTheSameLength(t *testing.T) {
	eachTestedRow(func(l []api.Cell) {
		if got := Fit(l, len(l)); !slices.Equal(got, l) {
			t.Fatalf("Fit(%v, %d) = %v", l, len(l), got)
		}
	})
}

// P7.6: fitting to a width and then to a smaller one is fitting to the smaller one.
func TestFittingTwice(t *testing.T) {
	eachTestedRow(func(l []api.Cell) {
		for _, width := range []int{1, 2, 3, 4, 5, 6, 7, 8, 29, 30, 31, 60, 61, 130, 131, 132} {
			first := Fit(l, width)
			for smaller := 1; smaller <= width; smaller++ {
				if got, want := Fit(first, smaller), Fit(l, smaller); !slices.Equal(got, want) {
					t.Fatalf("fitting %v to %d and to %d yields %v, want %v", l, width, smaller, got, want)
				}
			}
		}
	})
}
