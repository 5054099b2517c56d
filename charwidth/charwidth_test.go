package charwidth

import (
	"math"
	"math/rand"
	"slices"
	"strconv"
	"strings"
	"testing"
)

// The ranges in the words of the chapter, so that no table of the program is compared with itself.
const (
	chapterControls = "7F to 9F"
	chapterMarks    = "0300 to 036F, 1AB0 to 1AFF, 1DC0 to 1DFF, 200B to 200F, 20D0 to 20FF, FE00 to FE0F, FE20 to FE2F"
	chapterWide     = "1100 to 115F, 2E80 to 303E, 3041 to 33FF, 3400 to 4DBF, 4E00 to 9FFF, A000 to A4CF, AC00 to D7A3, " +
		"F900 to FAFF, FE30 to FE6F, FF00 to FF60, FFE0 to FFE6, 1F300 to 1F64F, 1F900 to 1F9FF, 20000 to 3FFFD"
)

// span is a range of the chapter.
type span struct{ first, last rune }

// readSpans returns the ranges that a text of the chapter lists.
func readSpans(t *testing.T, text string) []span {
	t.Helper()
	var l []span
	for part := range strings.SplitSeq(text, ", ") {
		first, last, _ := strings.Cut(part, " to ")
		a, errFirst := strconv.ParseInt(first, 16, 32)
		b, errLast := strconv.ParseInt(last, 16, 32)
		if errFirst != nil || errLast != nil || a > b {
			t.Fatalf("range %q", part)
		}
		l = append(l, span{rune(a), rune(b)})
	}
	return l
}

// limit is greater than every character and every bound of the chapter.
const limit = 0x110400

// paintWidths returns the widths of the numbers below limit as the chapter defines them, and fails if a number has two kinds.
func paintWidths(t *testing.T) []int {
	t.Helper()
	widths := make([]int, limit)
	for r := range widths {
		widths[r] = 1
	}
	paint := func(s span, width int) {
		for r := s.first; r <= s.last; r++ {
			if widths[r] != 1 {
				t.Fatalf("%x is of two kinds", r)
			}
			widths[r] = width
		}
	}
	paint(span{0, 0x1F}, -1)
	for _, s := range readSpans(t, chapterControls) {
		paint(s, -1)
	}
	for _, s := range readSpans(t, chapterMarks) {
		paint(s, 0)
	}
	for _, s := range readSpans(t, chapterWide) {
		paint(s, 2)
	}
	return widths
}

// checkNumber compares Width and Mark of a number with its width.
func checkNumber(t *testing.T, r rune, want int) {
	t.Helper()
	if got := Width(r); got != want {
		t.Errorf("Width(%#x) = %d, want %d", r, got, want)
	}
	if got := Mark(r); got != (want == 0) {
		t.Errorf("Mark(%#x) = %v, want %v", r, got, want == 0)
	}
}

// P2.1: the examples of the chapter, and characters of every kind.
func TestWidthOfExamples(t *testing.T) {
	for _, c := range []struct {
		r    rune
		want int
	}{
		{'a', 1}, {0x6F22, 2}, {0x0301, 0}, {'\n', -1},
		{' ', 1}, {'~', 1}, {0x7F, -1}, {0x80, -1}, {0x9F, -1}, {0xA0, 1}, {0xE9, 1},
		{0x200D, 0}, {0xFE0F, 0}, {0xAC00, 2}, {0x1F600, 2}, {0x2500, 1}, {0xFFFD, 1},
	} {
		checkNumber(t, c.r, c.want)
	}
}

// P2.1: the first and the last character of each range, and those just outside of it.
func TestBoundsOfRanges(t *testing.T) {
	widths := paintWidths(t)
	check := func(text string, want int) {
		for _, s := range readSpans(t, text) {
			checkNumber(t, s.first, want)
			checkNumber(t, s.last, want)
			checkNumber(t, s.first-1, widths[s.first-1])
			checkNumber(t, s.last+1, widths[s.last+1])
		}
	}
	check(chapterControls, -1)
	check(chapterMarks, 0)
	check(chapterWide, 2)
	checkNumber(t, 0x1F, -1)
	checkNumber(t, 0x20, 1)
}

// P2.1: every character, and the numbers just above them.
func TestAllCharacters(t *testing.T) {
	for r, want := range paintWidths(t) {
		checkNumber(t, rune(r), want)
	}
}

// P2.1: negative numbers are control characters, also those whose low bits are a mark or a wide character.
func TestNegativeNumbers(t *testing.T) {
	for r := rune(-0x10000); r < 0; r++ {
		checkNumber(t, r, -1)
	}
	for _, r := range []rune{math.MinInt32, math.MinInt32 + 1, math.MinInt32 + 0x301, math.MinInt32 + 0x6F22, -0x6F22, -0x301, -0x20000} {
		checkNumber(t, r, -1)
	}
}

// P2.1: numbers that are not characters have width 1, also those whose low bits are a mark, a wide or a control character.
func TestNumbersThatAreNotCharacters(t *testing.T) {
	for r := rune(0xD800); r <= 0xDFFF; r++ {
		checkNumber(t, r, 1)
	}
	for _, r := range []rune{0x110000, 0x110301, 0x116F22, 0x11000A, 0x1000301, 0x1006F22, 0x40000301, math.MaxInt32 - 1, math.MaxInt32} {
		checkNumber(t, r, 1)
	}
	random := rand.New(rand.NewSource(1))
	for range 100000 {
		checkNumber(t, limit+random.Int31n(math.MaxInt32-limit), 1)
	}
}

// P2.1: sums of ordinary characters, marks, wide and control characters, and of nothing.
func TestTotal(t *testing.T) {
	for _, c := range []struct {
		l    []rune
		want int
	}{
		{nil, 0},
		{[]rune{}, 0},
		{[]rune("narrator"), 8},
		{[]rune{0x6F22, 0x5B57}, 4},
		{[]rune{'e', 0x301}, 1},
		{[]rune{0x301}, 0},
		{[]rune{'\n'}, 0},
		{[]rune{'a', '\n', 0x1B, 0x9F, 'b'}, 2},
		{[]rune{-1, math.MinInt32}, 0},
		{[]rune{-1, 'a', 0x6F22, 0x301}, 3},
		{[]rune{0xD800, 0x110000, math.MaxInt32}, 3},
	} {
		if got := Total(c.l); got != c.want {
			t.Errorf("Total(%x) = %d, want %d", c.l, got, c.want)
		}
	}
}

// P2.1: the sum over all characters is that of their widths in the chapter.
func TestTotalOfAllCharacters(t *testing.T) {
	want := 0
	var l []rune
	for r, width := range paintWidths(t) {
		l = append(l, rune(r))
		want += max(width, 0)
	}
	if got := Total(l); got != want {
		t.Errorf("Total = %d, want %d", got, want)
	}
}

// P2.1: Wide returns the ranges of the chapter in its order.
func TestWide(t *testing.T) {
	var want [][2]rune
	for _, s := range readSpans(t, chapterWide) {
		want = append(want, [2]rune{s.first, s.last})
	}
	if got := Wide(); len(got) != 14 || !slices.Equal(got, want) {
		t.Errorf("Wide() = %x, want %x", got, want)
	}
}

// P2.1: a caller that writes to a result of Wide changes no other result.
func TestWideIsNewMemory(t *testing.T) {
	first := Wide()
	want := slices.Clone(first)
	for i := range first {
		first[i] = [2]rune{'a', 'z'}
	}
	if got := Wide(); !slices.Equal(got, want) {
		t.Errorf("Wide() = %x, want %x", got, want)
	}
	checkNumber(t, 'a', 1)
	checkNumber(t, 0x6F22, 2)
}

// P2.2: the ranges ascend and do not overlap.
func TestWideAscends(t *testing.T) {
	last := rune(-1)
	for _, entry := range Wide() {
		if entry[0] <= last || entry[1] < entry[0] {
			t.Errorf("the range %x comes after %x", entry, last)
		}
		last = entry[1]
	}
}

// P2.2: width 2 is that of the characters of the ranges of Wide, width 0 that of the marks.
func TestWidthsAreThoseOfRanges(t *testing.T) {
	table := Wide()
	for r := rune(-0x100); r < limit; r++ {
		count := 0
		for _, entry := range table {
			if entry[0] <= r && r <= entry[1] {
				count++
			}
		}
		if count > 1 || (Width(r) == 2) != (count == 1) {
			t.Errorf("Width(%#x) = %d, in %d ranges", r, Width(r), count)
		}
		if (Width(r) == 0) != Mark(r) {
			t.Errorf("Width(%#x) = %d, Mark %v", r, Width(r), Mark(r))
		}
	}
}

// randomList returns up to 30 numbers of all kinds.
func randomList(random *rand.Rand) []rune {
	samples := []rune{'a', ' ', 0x301, 0xFE0F, 0x6F22, 0x1F600, '\n', 0x9F, -1, math.MinInt32, 0xD800, 0x110000, math.MaxInt32}
	var l []rune
	for range random.Intn(31) {
		if random.Intn(2) == 0 {
			l = append(l, samples[random.Intn(len(samples))])
		} else {
			l = append(l, random.Int31n(limit))
		}
	}
	return l
}

// P2.3: the total of a concatenation is the sum of the totals, also if a part is empty.
func TestTotalOfConcatenation(t *testing.T) {
	random := rand.New(rand.NewSource(2))
	for range 20000 {
		a, b := randomList(random), randomList(random)
		sum := Total(a) + Total(b)
		if got := Total(slices.Concat(a, b)); got != sum {
			t.Fatalf("Total(%x, %x) = %d, want %d", a, b, got, sum)
		}
		if got := Total(slices.Concat(a, nil)); got != Total(a) {
			t.Fatalf("Total(%x) = %d, then %d", a, Total(a), got)
		}
	}
}

// P2.3: the total does not depend on the order, and the list is not changed.
func TestTotalOfOtherOrders(t *testing.T) {
	random := rand.New(rand.NewSource(3))
	for range 20000 {
		l := randomList(random)
		before := slices.Clone(l)
		want := Total(l)
		if !slices.Equal(l, before) {
			t.Fatalf("Total changed %x to %x", before, l)
		}
		other := slices.Clone(l)
		random.Shuffle(len(other), func(i, j int) { other[i], other[j] = other[j], other[i] })
		slices.Reverse(l)
		if Total(other) != want || Total(l) != want {
			t.Fatalf("Total(%x) = %d, in other orders %d and %d", before, want, Total(other), Total(l))
		}
	}
}
