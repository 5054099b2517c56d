package tabstop

import (
	"math"
	"slices"
	"testing"
)

// surrounded returns a memory with other stops around a list, and the list in it.
func surrounded(l []bool) (memory, list []bool) {
	memory = slices.Concat([]bool{true, false}, l, []bool{false, true, true, false})
	return memory, memory[2 : 2+len(l)]
}

// guarded calls a function with a list that has other stops around it. It reports if the function changes one of them, or if writing to its result does.
func guarded(t *testing.T, what string, l []bool, call func(l []bool) []bool) []bool {
	t.Helper()
	memory, list := surrounded(l)
	before := slices.Clone(memory)
	result := call(list)
	if !slices.Equal(memory, before) {
		t.Fatalf("%s changes its argument %v", what, l)
	}
	kept := slices.Clone(result)
	written := result[:cap(result)]
	for i := range written {
		written[i] = !written[i]
	}
	if !slices.Equal(memory, before) {
		t.Fatalf("the result of %s shares memory with the argument %v", what, l)
	}
	return kept
}

// compareColumn compares what Next or Previous returns with the chapter.
func compareColumn(t *testing.T, what string, l []bool, col int, move, chapter func(l []bool, col int) int) {
	t.Helper()
	got := 0
	guarded(t, what, l, func(l []bool) []bool {
		got = move(l, col)
		return nil
	})
	if want := chapter(l, col); got != want {
		t.Fatalf("%s(%v, %d) = %d, want %d", what, columnsOf(l), col, got, want)
	}
}

// compareSet compares Set with the chapter.
func compareSet(t *testing.T, l []bool, col int, on bool) {
	t.Helper()
	got := guarded(t, "Set", l, func(l []bool) []bool { return Set(l, col, on) })
	if want := chapterSet(l, col, on); !slices.Equal(got, want) {
		t.Fatalf("Set(%v, %d, %t) = %v, want %v", l, col, on, got, want)
	}
}

// compareResize compares Resize with the chapter.
func compareResize(t *testing.T, l []bool, width int) {
	t.Helper()
	got := guarded(t, "Resize", l, func(l []bool) []bool { return Resize(l, width) })
	if want := chapterResize(l, width); !slices.Equal(got, want) {
		t.Fatalf("Resize(%v, %d) = %v, want %v", l, width, got, want)
	}
}

// The chapter's example.
func TestExample(t *testing.T) {
	l := New(20)
	col := 0
	for _, want := range []int{8, 16, 19, 19} {
		if col = Next(l, col); col != want {
			t.Errorf("the next column is %d, want %d", col, want)
		}
	}
}

// P9.1: the default tab stops of the widths at the limits, of negative and of huge ones.
func TestNew(t *testing.T) {
	for _, c := range []struct{ width, length, last int }{
		{1, 1, 0}, {2, 2, 0}, {7, 7, 0}, {8, 8, 0}, {9, 9, 8}, {16, 16, 8}, {17, 17, 16}, {20, 20, 16}, {80, 80, 72}, {132, 132, 128},
		{992, 992, 984}, {993, 993, 992}, {999, 999, 992}, {1000, 1000, 992},
		{1001, 1000, 992}, {5000, 1000, 992}, {math.MaxInt32, 1000, 992}, {1<<32 + 3, 1000, 992}, {math.MaxInt, 1000, 992},
	} {
		l := New(c.width)
		columns := columnsOf(l)
		if len(l) != c.length || len(columns) == 0 || columns[0] != 0 || columns[len(columns)-1] != c.last {
			t.Errorf("New(%d) has %d columns, with tab stops at %v", c.width, len(l), columns)
		}
	}
	for _, width := range []int{0, -1, -8, -1000, math.MinInt32, -1 << 32, math.MinInt + 1, math.MinInt} {
		if l := New(width); len(l) != 0 {
			t.Errorf("New(%d) has %d columns", width, len(l))
		}
	}
	for _, width := range append(allColumns(1100), hugeNumbers...) {
		if l := New(width); !slices.Equal(l, chapterNew(width)) {
			t.Fatalf("New(%d) = %v", width, l)
		}
	}
}

// P9.1: each call of New returns tab stops of its own.
func TestNewIsNew(t *testing.T) {
	for _, width := range []int{1, 20, 1000, 2000} {
		l := New(width)
		written := l[:cap(l)]
		for i := range written {
			written[i] = !written[i]
		}
		if !slices.Equal(New(width), chapterNew(width)) {
			t.Errorf("New(%d) changes with an earlier result", width)
		}
	}
}

// P9.1: the column that Next returns, from columns in front of the list, in it and behind it.
func TestNext(t *testing.T) {
	none, every, some := listOf(5), listOf(5, 0, 1, 2, 3, 4), listOf(10, 2, 3, 7)
	for _, c := range []struct {
		l         []bool
		col, want int
	}{
		{nil, 0, 0}, {nil, -1, 0}, {nil, 5, 0}, {nil, math.MaxInt, 0}, {nil, math.MinInt, 0}, {[]bool{}, 0, 0}, {[]bool{}, 7, 0},
		{none, -1, 4}, {none, 0, 4}, {none, 3, 4}, {none, 4, 4}, {none, 5, 4}, {none, math.MaxInt, 4}, {none, math.MinInt, 4},
		{every, math.MinInt, 0}, {every, -2, 0}, {every, -1, 0}, {every, 0, 1}, {every, 1, 2}, {every, 3, 4}, {every, 4, 4}, {every, 5, 4}, {every, math.MaxInt, 4},
		{some, -1, 2}, {some, 0, 2}, {some, 1, 2}, {some, 2, 3}, {some, 3, 7}, {some, 6, 7}, {some, 7, 9}, {some, 8, 9}, {some, 9, 9}, {some, 10, 9}, {some, 100, 9},
		{some, math.MaxInt, 9}, {some, math.MinInt, 2}, {some, 1 << 32, 9}, {some, -1 << 32, 2},
		{[]bool{true}, -1, 0}, {[]bool{true}, 0, 0}, {[]bool{true}, 1, 0}, {[]bool{false}, -1, 0}, {[]bool{false}, 0, 0}, {[]bool{false}, 1, 0},
		{New(1000), 991, 992}, {New(1000), 992, 999}, {New(1000), 999, 999}, {New(993), 991, 992}, {New(993), 992, 992},
	} {
		if got := Next(c.l, c.col); got != c.want {
			t.Errorf("Next(%v, %d) = %d, want %d", c.l, c.col, got, c.want)
		}
	}
}

// P9.1: the column that Previous returns, from columns in front of the list, in it and behind it.
func TestPrevious(t *testing.T) {
	none, every, some := listOf(5), listOf(5, 0, 1, 2, 3, 4), listOf(10, 2, 3, 7)
	for _, c := range []struct {
		l         []bool
		col, want int
	}{
		{nil, 0, 0}, {nil, -1, 0}, {nil, 5, 0}, {nil, math.MaxInt, 0}, {nil, math.MinInt, 0}, {[]bool{}, 0, 0}, {[]bool{}, 7, 0},
		{none, -1, 0}, {none, 0, 0}, {none, 3, 0}, {none, 4, 0}, {none, 5, 0}, {none, math.MaxInt, 0}, {none, math.MinInt, 0},
		{every, math.MinInt, 0}, {every, -1, 0}, {every, 0, 0}, {every, 1, 0}, {every, 2, 1}, {every, 4, 3}, {every, 5, 4}, {every, 6, 4}, {every, math.MaxInt, 4},
		{some, -1, 0}, {some, 0, 0}, {some, 1, 0}, {some, 2, 0}, {some, 3, 2}, {some, 4, 3}, {some, 7, 3}, {some, 8, 7}, {some, 9, 7}, {some, 10, 7}, {some, 100, 7},
		{some, math.MaxInt, 7}, {some, math.MinInt, 0}, {some, 1 << 32, 7}, {some, -1 << 32, 0},
		{[]bool{true}, 0, 0}, {[]bool{true}, 1, 0}, {[]bool{false}, 1, 0}, {listOf(3, 2), 2, 0}, {listOf(3, 2), 3, 2},
		{New(1000), 992, 984}, {New(1000), 993, 992}, {New(1000), 999, 992}, {New(1000), 2000, 992},
	} {
		if got := Previous(c.l, c.col); got != c.want {
			t.Errorf("Previous(%v, %d) = %d, want %d", c.l, c.col, got, c.want)
		}
	}
}

// P9.1: a tab stop that is there already or not, and columns that do not exist.
func TestSet(t *testing.T) {
	some := listOf(10, 2, 3, 7)
	for _, c := range []struct {
		l    []bool
		col  int
		on   bool
		want []bool
	}{
		{some, 5, true, listOf(10, 2, 3, 5, 7)}, {some, 0, true, listOf(10, 0, 2, 3, 7)}, {some, 9, true, listOf(10, 2, 3, 7, 9)}, {some, 3, true, some},
		{some, 3, false, listOf(10, 2, 7)}, {some, 2, false, listOf(10, 3, 7)}, {some, 7, false, listOf(10, 2, 3)}, {some, 0, false, some}, {some, 9, false, some},
		{some, 10, true, some}, {some, 10, false, some}, {some, -1, true, some}, {some, -1, false, some}, {some, -7, false, some},
		{some, math.MaxInt, true, some}, {some, math.MinInt, true, some}, {some, 1<<32 + 3, false, some}, {some, -1<<32 + 3, false, some},
		{nil, 0, true, nil}, {nil, 0, false, nil}, {nil, -1, true, nil}, {[]bool{}, 0, true, nil}, {nil, math.MaxInt, true, nil}, {nil, math.MinInt, false, nil},
		{listOf(1), 0, true, listOf(1, 0)}, {listOf(1, 0), 0, false, listOf(1)}, {listOf(1, 0), 1, false, listOf(1, 0)},
		{listOf(1500), 1499, true, listOf(1500, 1499)}, {listOf(1500, 1000), 1000, false, listOf(1500)}, {listOf(1500, 1000), 1500, true, listOf(1500, 1000)},
	} {
		if got := Set(c.l, c.col, c.on); !slices.Equal(got, c.want) {
			t.Errorf("Set(%v, %d, %t) = %v, want %v", c.l, c.col, c.on, got, c.want)
		}
	}
}

// P9.1: the same width, smaller and greater ones, of lists with the default tab stops and with others.
func TestResize(t *testing.T) {
	some := listOf(10, 2, 3, 7)
	for _, c := range []struct {
		l     []bool
		width int
		want  []bool
	}{
		{some, 10, some}, {some, 9, listOf(9, 2, 3, 7)}, {some, 7, listOf(7, 2, 3)}, {some, 3, listOf(3, 2)}, {some, 1, listOf(1)},
		{some, 11, listOf(11, 2, 3, 7)}, {some, 16, listOf(16, 2, 3, 7)}, {some, 17, listOf(17, 2, 3, 7, 16)}, {some, 26, listOf(26, 2, 3, 7, 16, 24)},
		{some, 0, nil}, {some, -1, nil}, {some, -10, nil}, {some, math.MinInt, nil}, {nil, 0, nil}, {nil, -1, nil}, {nil, math.MinInt, nil},
		{nil, 1, listOf(1, 0)}, {nil, 9, listOf(9, 0, 8)}, {[]bool{}, 9, listOf(9, 0, 8)}, {nil, 1000, New(1000)}, {nil, 1001, New(1000)}, {nil, math.MaxInt, New(1000)},
		{listOf(8), 9, listOf(9, 8)}, {listOf(9), 9, listOf(9)}, {listOf(9), 10, listOf(10)}, {listOf(9), 17, listOf(17, 16)}, {listOf(16, 15), 17, listOf(17, 15, 16)},
		{New(20), 20, New(20)}, {New(20), 8, New(8)}, {New(20), 132, New(132)}, {New(1000), 999, New(999)}, {New(999), 1001, New(1000)},
		{listOf(1000, 999), 1000, listOf(1000, 999)}, {listOf(1000, 999), 1001, listOf(1000, 999)}, {listOf(1000, 999), math.MaxInt, listOf(1000, 999)}, {listOf(1000, 999), 999, listOf(999)},
		{listOf(1500, 999, 1000), 1500, listOf(1000, 999)}, {listOf(1500, 999, 1000), 1000, listOf(1000, 999)}, {listOf(1500, 7, 999), 8, listOf(8, 7)},
	} {
		if got := Resize(c.l, c.width); !slices.Equal(got, c.want) {
			t.Errorf("Resize(%v, %d) = %v, want %v", columnsOf(c.l), c.width, columnsOf(got), columnsOf(c.want))
		}
	}
}

// P9.1: Next and Previous are as the chapter defines them, for all short lists and for long ones, and change nothing.
func TestMovesAsDefined(t *testing.T) {
	eachList(func(l []bool) {
		for _, col := range columnsAround(l) {
			compareColumn(t, "Next", l, col, Next, chapterNext)
			compareColumn(t, "Previous", l, col, Previous, chapterPrevious)
		}
	})
}

// P9.1: Set and Resize are as the chapter defines them, for all short lists and for long ones, and share no memory with the list.
func TestEditsAsDefined(t *testing.T) {
	eachShortList(9, func(l []bool) {
		for _, col := range columnsAround(l) {
			compareSet(t, l, col, true)
			compareSet(t, l, col, false)
		}
		for _, width := range widthsAround(l) {
			compareResize(t, l, width)
		}
	})
	eachLongList(func(l []bool) {
		for i, col := range columnsAround(l) {
			// A part of the columns of a long list is enough: each result is as long as the list.
			if i%17 == 0 || i+30 > len(l) {
				compareSet(t, l, col, true)
				compareSet(t, l, col, false)
			}
		}
		for _, width := range widthsAround(l) {
			compareResize(t, l, width)
		}
	})
}
