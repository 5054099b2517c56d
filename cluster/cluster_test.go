package cluster

import (
	"math"
	"math/rand"
	"regexp"
	"slices"
	"strings"
	"testing"
	"unicode/utf8"

	"narrator/api"
	"narrator/charwidth"
)

// The characters of chapters 1 and 2 as classes of a regular expression, so that the program is not compared with itself.
const (
	classControls = `\x{0}-\x{1F}\x{7F}-\x{9F}`
	classMarks    = `\x{300}-\x{36F}\x{1AB0}-\x{1AFF}\x{1DC0}-\x{1DFF}\x{200B}-\x{200F}\x{20D0}-\x{20FF}\x{FE00}-\x{FE0F}\x{FE20}-\x{FE2F}`
)

// The shapes of strings in the words of the chapter.
var (
	shapeControls = regexp.MustCompile(`[` + classControls + `]`)
	shapeCluster  = regexp.MustCompile(`[^` + classControls + classMarks + `][` + classMarks + `]*`)
	shapeKinds    = regexp.MustCompile(`\A[^` + classControls + classMarks + `][` + classMarks + `]*\z`)
	shapeLimit    = regexp.MustCompile(`\A[^` + classControls + classMarks + `][` + classMarks + `]{0,3}\z`)
	shapeMark     = regexp.MustCompile(`\A[` + classMarks + `]\z`)
)

// chapterSplit returns the clusters of characters as the chapter defines them.
func chapterSplit(l []rune) []string {
	var text strings.Builder
	for _, r := range l {
		if r >= 0 {
			text.WriteRune(r)
		}
	}
	shown := shapeControls.ReplaceAllString(text.String(), "")
	if r, _ := utf8.DecodeRuneInString(shown); shapeMark.MatchString(string(r)) {
		shown = " " + shown
	}
	var clusters []string
	for _, group := range shapeCluster.FindAllString(shown, -1) {
		characters := []rune(group)
		clusters = append(clusters, string(characters[:min(len(characters), 4)]))
	}
	return clusters
}

// chapterCheck returns the error of a string as the chapter defines it.
func chapterCheck(c string) api.Errno {
	switch {
	case c == "" || !utf8.ValidString(c):
		return api.ErrSyntax
	case !shapeKinds.MatchString(c):
		return api.ErrKind
	case !shapeLimit.MatchString(c):
		return api.ErrLimit
	}
	return api.OK
}

// checkString compares Check, Width, Base and Marks of a string with the chapter.
func checkString(t *testing.T, c string) {
	t.Helper()
	want := chapterCheck(c)
	if got := Check(c); got != want {
		t.Errorf("Check(%q) = %d, want %d", c, got, want)
	}
	width, base, marks := 0, rune(0), []rune(nil)
	if want == api.OK {
		characters := []rune(c)
		width, base, marks = charwidth.Width(characters[0]), characters[0], characters[1:]
	}
	if got := Width(c); got != width {
		t.Errorf("Width(%q) = %d, want %d", c, got, width)
	}
	if got := Base(c); got != base {
		t.Errorf("Base(%q) = %x, want %x", c, got, base)
	}
	if got := Marks(c); !slices.Equal(got, marks) {
		t.Errorf("Marks(%q) = %x, want %x", c, got, marks)
	}
}

// samples are characters of every kind, and numbers that are not characters.
var samples = []rune{'a', ' ', 0x6F22, 0x301, 0x200B, '\a', 0x85, -1, 0xD800, 0x110000}

// eachList calls a function with every list of at most n samples.
func eachList(n int, use func(l []rune)) {
	var grow func(l []rune)
	grow = func(l []rune) {
		use(l)
		if len(l) < n {
			for _, r := range samples {
				grow(append(slices.Clone(l), r))
			}
		}
	}
	grow(nil)
}

// randomList returns up to 20 numbers of all kinds, many of them marks.
func randomList(random *rand.Rand) []rune {
	var l []rune
	for range random.Intn(21) {
		switch random.Intn(4) {
		case 0:
			l = append(l, samples[random.Intn(len(samples))])
		case 1:
			l = append(l, random.Int31n(0x110400))
		default:
			l = append(l, 0x300+random.Int31n(0x70))
		}
	}
	return l
}

// P3.1: the examples of the chapter, and each step of splitting.
func TestSplit(t *testing.T) {
	for _, c := range []struct {
		name string
		l    []rune
		want []string
	}{
		{"the first example", []rune{'e', 0x301, '\a', 'x', 0x6F22}, []string{"e\u0301", "x", "\u6F22"}},
		{"the second example", []rune{0x301}, []string{" \u0301"}},
		{"no list", nil, nil},
		{"an empty list", []rune{}, nil},
		{"one base", []rune{'a'}, []string{"a"}},
		{"one space", []rune{' '}, []string{" "}},
		{"two equal bases", []rune{'a', 'a'}, []string{"a", "a"}},
		{"wide bases", []rune{0x6F22, 0x5B57, 0x1F600}, []string{"\u6F22", "\u5B57", "\U0001F600"}},
		{"a wide base with marks", []rune{0x6F22, 0x301, 0xFE0F}, []string{"\u6F22\u0301\uFE0F"}},
		{"control characters alone", []rune{0, '\n', 0x1B, 0x7F, 0x80, 0x9F}, nil},
		{"control characters around bases", []rune{'\n', 'a', 0x7F, 'b', 0x9F}, []string{"a", "b"}},
		{"a control character before a mark", []rune{'a', '\n', 0x301}, []string{"a\u0301"}},
		{"control characters among the marks", []rune{'a', 0x300, '\n', 0x301, 0x85, 0x302, 0, 0x303}, []string{"a\u0300\u0301\u0302"}},
		{"a control character before the first mark", []rune{'\n', 0x301, 'a'}, []string{" \u0301", "a"}},
		{"marks before every base", []rune{0x301, 0x302, 'a', 0x303}, []string{" \u0301\u0302", "a\u0303"}},
		{"a fourth mark before every base", []rune{0x300, 0x301, 0x302, 0x303, 'a'}, []string{" \u0300\u0301\u0302", "a"}},
		{"three marks", []rune{'a', 0x300, 0x301, 0x302}, []string{"a\u0300\u0301\u0302"}},
		{"a fourth mark", []rune{'a', 0x300, 0x301, 0x302, 0x303}, []string{"a\u0300\u0301\u0302"}},
		{"a fifth mark", []rune{'a', 0x300, 0x301, 0x302, 0x303, 0x304, 'b'}, []string{"a\u0300\u0301\u0302", "b"}},
		{"marks after a full cluster", []rune{'a', 0x300, 0x301, 0x302, 0x303, 'b', 0x304}, []string{"a\u0300\u0301\u0302", "b\u0304"}},
		{"the same mark again", []rune{'a', 0x301, 0x301, 0x301, 0x301}, []string{"a\u0301\u0301\u0301"}},
		{"negative numbers", []rune{-1, math.MinInt32, -0x6F22, -0x301}, nil},
		{"a negative number before a mark", []rune{'a', -1, 0x301}, []string{"a\u0301"}},
		{"numbers that are not characters", []rune{0xD800, 0xDFFF, 0x110000, math.MaxInt32}, []string{"\uFFFD", "\uFFFD", "\uFFFD", "\uFFFD"}},
		{"a number that is not a character with marks", []rune{0xD800, 0x301, 0x110301, 0x302}, []string{"\uFFFD\u0301", "\uFFFD\u0302"}},
		{"the replacement character", []rune{0xFFFD, 0x301}, []string{"\uFFFD\u0301"}},
	} {
		if got := Split(c.l); !slices.Equal(got, c.want) {
			t.Errorf("%s: Split(%x) = %q, want %q", c.name, c.l, got, c.want)
		}
	}
}

// P3.1: every list of up to five samples.
func TestSplitOfAllShortLists(t *testing.T) {
	eachList(5, func(l []rune) {
		if got, want := Split(l), chapterSplit(l); !slices.Equal(got, want) {
			t.Fatalf("Split(%x) = %q, want %q", l, got, want)
		}
	})
}

// P3.1: longer lists, with clusters of more marks than there may be.
func TestSplitOfRandomLists(t *testing.T) {
	random := rand.New(rand.NewSource(1))
	for range 20000 {
		l := randomList(random)
		if got, want := Split(l), chapterSplit(l); !slices.Equal(got, want) {
			t.Fatalf("Split(%x) = %q, want %q", l, got, want)
		}
	}
}

// P3.1: every character alone, after a base and before one, as a list and as a string.
func TestAllCharacters(t *testing.T) {
	for r := rune(-0x200); r < 0x110400; r++ {
		l := []rune{'a', r, 'b'}
		if got, want := Split(l), chapterSplit(l); !slices.Equal(got, want) {
			t.Errorf("Split(%x) = %q, want %q", l, got, want)
		}
		if got, want := Split(l[1:2]), chapterSplit(l[1:2]); !slices.Equal(got, want) {
			t.Errorf("Split(%x) = %q, want %q", l[1:2], got, want)
		}
		if r < 0 || !utf8.ValidRune(r) {
			continue
		}
		checkString(t, string(r))
		checkString(t, "a"+string(r))
	}
}

// P3.1: Split and Attach change no argument, and no result shares memory with another one.
func TestNothingIsShared(t *testing.T) {
	l := []rune{'e', 0x301, '\a', 0x6F22}
	first := Split(l)
	if !slices.Equal(l, []rune{'e', 0x301, '\a', 0x6F22}) {
		t.Errorf("Split changed its argument to %x", l)
	}
	first[0], first[1] = "x", "y"
	if got := Split(l); !slices.Equal(got, []string{"e\u0301", "\u6F22"}) {
		t.Errorf("Split(%x) = %q after its last result was written to", l, got)
	}
	marks := Marks("a\u0301\u0302")
	marks[0], marks[1] = 'x', 'y'
	if got := Marks("a\u0301\u0302"); !slices.Equal(got, []rune{0x301, 0x302}) {
		t.Errorf("Marks = %x after its last result was written to", got)
	}
}

// P3.1: each error of Check, also where several of them apply, and what the parts of such a string are.
func TestParts(t *testing.T) {
	for _, c := range []struct {
		c     string
		e     api.Errno
		width int
		base  rune
		marks []rune
	}{
		{"a", api.OK, 1, 'a', nil},
		{" ", api.OK, 1, ' ', nil},
		{"\u00A0", api.OK, 1, 0xA0, nil},
		{"\uFFFD", api.OK, 1, 0xFFFD, nil},
		{"\u6F22", api.OK, 2, 0x6F22, nil},
		{"\U0001F600\uFE0F", api.OK, 2, 0x1F600, []rune{0xFE0F}},
		{"e\u0301\u0302", api.OK, 1, 'e', []rune{0x301, 0x302}},
		{"e\u0302\u0301", api.OK, 1, 'e', []rune{0x302, 0x301}},
		{"\u6F22\u0301\u0301\u0301", api.OK, 2, 0x6F22, []rune{0x301, 0x301, 0x301}},
		{"", api.ErrSyntax, 0, 0, nil},
		{"\xFF", api.ErrSyntax, 0, 0, nil},
		{"a\xFF", api.ErrSyntax, 0, 0, nil},
		{"a\xCC", api.ErrSyntax, 0, 0, nil},
		{"\xE6\xBC", api.ErrSyntax, 0, 0, nil},
		{"\xED\xA0\x80", api.ErrSyntax, 0, 0, nil},
		{"\xC0\x80", api.ErrSyntax, 0, 0, nil},
		{"\u0301\xFF", api.ErrSyntax, 0, 0, nil},
		{"ab\xFF", api.ErrSyntax, 0, 0, nil},
		{"a\u0300\u0301\u0302\u0303\xFF", api.ErrSyntax, 0, 0, nil},
		{"\x00", api.ErrKind, 0, 0, nil},
		{"\n", api.ErrKind, 0, 0, nil},
		{"\u009F", api.ErrKind, 0, 0, nil},
		{"\u0301", api.ErrKind, 0, 0, nil},
		{"\u0301a", api.ErrKind, 0, 0, nil},
		{"\na", api.ErrKind, 0, 0, nil},
		{"a\n", api.ErrKind, 0, 0, nil},
		{"a\n\u0301", api.ErrKind, 0, 0, nil},
		{"ab", api.ErrKind, 0, 0, nil},
		{"a\u6F22", api.ErrKind, 0, 0, nil},
		{"ab\u0301", api.ErrKind, 0, 0, nil},
		{"a\u0301b", api.ErrKind, 0, 0, nil},
		{"\u0300\u0301\u0302\u0303", api.ErrKind, 0, 0, nil},
		{"\u0300\u0301\u0302\u0303\u0304", api.ErrKind, 0, 0, nil},
		{"a\u0300\u0301\u0302\u0303b", api.ErrKind, 0, 0, nil},
		{"a\u0300\u0301\u0302\u0303\n", api.ErrKind, 0, 0, nil},
		{"abcde", api.ErrKind, 0, 0, nil},
		{"a\u0300\u0301\u0302\u0303", api.ErrLimit, 0, 0, nil},
		{"\u6F22" + strings.Repeat("\u0301", 1000), api.ErrLimit, 0, 0, nil},
	} {
		checkString(t, c.c)
		if e, width, base, marks := Check(c.c), Width(c.c), Base(c.c), Marks(c.c); e != c.e || width != c.width || base != c.base || !slices.Equal(marks, c.marks) {
			t.Errorf("%q: error %d, width %d, base %x, marks %x", c.c, e, width, base, marks)
		}
	}
}

// eachString calls a function with every string of at most n pieces: clusters, their parts, and bytes that are no character.
func eachString(n int, use func(c string)) {
	pieces := []string{"a", "\u6F22", "\u0301", "\u200B", "\a", "\uFFFD", "\xCC", "\x81"}
	var grow func(c string, n int)
	grow = func(c string, n int) {
		use(c)
		if n > 0 {
			for _, piece := range pieces {
				grow(c+piece, n-1)
			}
		}
	}
	grow("", n)
}

// P3.1: every string of up to six pieces.
func TestPartsOfAllShortStrings(t *testing.T) {
	eachString(6, func(c string) { checkString(t, c) })
}

// P3.1: Attach with each error, also where two of them apply.
func TestAttach(t *testing.T) {
	for _, c := range []struct {
		c    string
		mark rune
		want string
		e    api.Errno
	}{
		{"a", 0x301, "a\u0301", api.OK},
		{" ", 0xFE0F, " \uFE0F", api.OK},
		{"\u6F22", 0x200D, "\u6F22\u200D", api.OK},
		{"a\u0301", 0x301, "a\u0301\u0301", api.OK},
		{"a\u0302\u0301", 0x300, "a\u0302\u0301\u0300", api.OK},
		{"\uFFFD", 0x301, "\uFFFD\u0301", api.OK},
		{"", 0x301, "", api.ErrSyntax},
		{"a\xFF", 0x301, "", api.ErrSyntax},
		{"", 'b', "", api.ErrSyntax},
		{"a\u0300\u0301\u0302\xFF", 'b', "", api.ErrSyntax},
		{"ab", 0x301, "", api.ErrKind},
		{"\u0301", 0x301, "", api.ErrKind},
		{"\n", 0x301, "", api.ErrKind},
		{"a\u0300\u0301\u0302\u0303", 0x301, "", api.ErrLimit},
		{"a\u0300\u0301\u0302\u0303", 'b', "", api.ErrLimit},
		{"a", 'b', "", api.ErrKind},
		{"a", '\n', "", api.ErrKind},
		{"a", 0x6F22, "", api.ErrKind},
		{"a", 0, "", api.ErrKind},
		{"a", -1, "", api.ErrKind},
		{"a", -0x301, "", api.ErrKind},
		{"a", 0xD800, "", api.ErrKind},
		{"a", 0x110301, "", api.ErrKind},
		{"a", math.MinInt32, "", api.ErrKind},
		{"a", math.MaxInt32, "", api.ErrKind},
		{"a\u0300\u0301\u0302", 'b', "", api.ErrKind},
		{"a\u0300\u0301\u0302", 0xFFFD, "", api.ErrKind},
		{"a\u0300\u0301\u0302", 0x303, "", api.ErrLimit},
	} {
		if got, e := Attach(c.c, c.mark); got != c.want || e != c.e {
			t.Errorf("Attach(%q, %x) = %q, error %d, want %q, error %d", c.c, c.mark, got, e, c.want, c.e)
		}
	}
}

// chapterAttach returns the result of Attach as the chapter defines it.
func chapterAttach(c string, mark rune) (string, api.Errno) {
	if e := chapterCheck(c); e != api.OK {
		return "", e
	}
	if !utf8.ValidRune(mark) || !shapeMark.MatchString(string(mark)) {
		return "", api.ErrKind
	}
	if utf8.RuneCountInString(c) == 4 {
		return "", api.ErrLimit
	}
	return c + string(mark), api.OK
}

// P3.1: every sample attached to every string of up to five pieces.
func TestAttachToAllShortStrings(t *testing.T) {
	eachString(5, func(c string) {
		for _, mark := range samples {
			want, wantError := chapterAttach(c, mark)
			if got, e := Attach(c, mark); got != want || e != wantError {
				t.Errorf("Attach(%q, %x) = %q, error %d, want %q, error %d", c, mark, got, e, want, wantError)
			}
		}
	})
}

// P3.1: every character attached to a base.
func TestAttachAllCharacters(t *testing.T) {
	for mark := rune(-0x200); mark < 0x110400; mark++ {
		want, wantError := chapterAttach("\u6F22\u0300", mark)
		if got, e := Attach("\u6F22\u0300", mark); got != want || e != wantError {
			t.Errorf("Attach of %x = %q, error %d, want %q, error %d", mark, got, e, want, wantError)
		}
	}
}

// eachTestedList calls a function with all short lists and with longer ones.
func eachTestedList(use func(l []rune)) {
	eachList(4, use)
	random := rand.New(rand.NewSource(2))
	for range 5000 {
		use(randomList(random))
	}
}

// P3.2: the elements of a result are clusters.
func TestElementsAreClusters(t *testing.T) {
	eachTestedList(func(l []rune) {
		for _, c := range Split(l) {
			if e := Check(c); e != api.OK || chapterCheck(c) != api.OK {
				t.Fatalf("Split(%x) has the element %q, error %d", l, c, e)
			}
		}
	})
}

// P3.2: splitting the characters of the elements again yields the same elements.
func TestSplitAgain(t *testing.T) {
	eachTestedList(func(l []rune) {
		first := Split(l)
		if again := Split([]rune(strings.Join(first, ""))); !slices.Equal(first, again) {
			t.Fatalf("Split(%x) = %q, and again %q", l, first, again)
		}
	})
}

// P3.2: the widths of the elements are those of the bases, and of the space that was added.
func TestWidthsOfElements(t *testing.T) {
	eachTestedList(func(l []rune) {
		want, bases, marksFirst := 0, 0, false
		for _, r := range l {
			switch width := charwidth.Width(r); {
			case width > 0:
				want += width
				bases++
			case width == 0 && bases == 0:
				marksFirst = true
			}
		}
		if marksFirst {
			want++
		}
		sum := 0
		for _, c := range Split(l) {
			sum += Width(c)
		}
		if sum != want {
			t.Fatalf("the widths of Split(%x) are %d, want %d", l, sum, want)
		}
	})
}

// marksFirst reports whether the first character of a list that is not a control character is a mark.
func marksFirst(l []rune) bool {
	for _, r := range l {
		if charwidth.Width(r) >= 0 {
			return charwidth.Mark(r)
		}
	}
	return false
}

// checkIndependence compares the elements of two lists with those of the concatenated list.
func checkIndependence(t *testing.T, a, b []rune) {
	t.Helper()
	if marksFirst(b) {
		return
	}
	want := slices.Concat(Split(a), Split(b))
	if got := Split(slices.Concat(a, b)); !slices.Equal(got, want) {
		t.Fatalf("Split(%x, %x) = %q, want %q", a, b, got, want)
	}
}

// P3.3: a list that does not begin with a mark is split alike after every other list.
func TestIndependence(t *testing.T) {
	var lists [][]rune
	eachList(2, func(l []rune) { lists = append(lists, l) })
	for _, a := range lists {
		for _, b := range lists {
			checkIndependence(t, a, b)
		}
	}
	random := rand.New(rand.NewSource(3))
	for range 20000 {
		checkIndependence(t, randomList(random), randomList(random))
	}
}

// P3.3: control characters before the base do not matter, and a mark belongs to the last cluster of the other list.
func TestIndependenceOfExamples(t *testing.T) {
	full := []rune{'a', 0x300, 0x301, 0x302, 0x303}
	for _, c := range []struct {
		a, b []rune
		want []string
	}{
		{full, []rune{'b', 0x304}, []string{"a\u0300\u0301\u0302", "b\u0304"}},
		{full, []rune{'\n', -1, 'b', 0x304}, []string{"a\u0300\u0301\u0302", "b\u0304"}},
		{full, []rune{'\n'}, []string{"a\u0300\u0301\u0302"}},
		{full, nil, []string{"a\u0300\u0301\u0302"}},
		{nil, []rune{'\n', 'b'}, []string{"b"}},
		{[]rune{'\n'}, []rune{0x110000, 0x301}, []string{"\uFFFD\u0301"}},
		{[]rune{'a'}, []rune{'\n', 0x301}, []string{"a\u0301"}},
	} {
		checkIndependence(t, c.a, c.b)
		if got := Split(slices.Concat(c.a, c.b)); !slices.Equal(got, c.want) {
			t.Errorf("Split(%x, %x) = %q, want %q", c.a, c.b, got, c.want)
		}
	}
}

// P3.4: a cluster is its base followed by its marks, and splitting these yields it alone.
func TestPartsAreTheCluster(t *testing.T) {
	clusters := map[string]bool{}
	eachString(5, func(c string) {
		if Check(c) != api.OK {
			return
		}
		clusters[c] = true
		characters := append([]rune{Base(c)}, Marks(c)...)
		if string(characters) != c {
			t.Errorf("%q has the base %x and the marks %x", c, Base(c), Marks(c))
		}
		if got := Split(characters); !slices.Equal(got, []string{c}) {
			t.Errorf("Split(%x) = %q, want %q", characters, got, c)
		}
	})
	if want := 3 * (1 + 2 + 4 + 8); len(clusters) != want {
		t.Errorf("%d strings are clusters, want %d", len(clusters), want)
	}
}

// P3.4: attaching marks one after the other yields what Split yields.
func TestAttachOneAfterTheOther(t *testing.T) {
	marks := []rune{0x300, 0x36F, 0x1AB0, 0x1DFF, 0x200B, 0x20D0, 0xFE0F, 0xFE2F}
	for _, base := range []rune{'a', ' ', 0x6F22, 0x1F600, 0xFFFD} {
		for _, first := range marks {
			for _, second := range marks {
				for _, third := range marks {
					c := string(base)
					characters := []rune{base}
					for _, mark := range []rune{first, second, third} {
						var e api.Errno
						c, e = Attach(c, mark)
						characters = append(characters, mark)
						if got := Split(characters); e != api.OK || !slices.Equal(got, []string{c}) {
							t.Fatalf("Attach yields %q, error %d, Split(%x) = %q", c, e, characters, got)
						}
					}
					if got, e := Attach(c, first); got != "" || e != api.ErrLimit {
						t.Fatalf("Attach(%q, %x) = %q, error %d", c, first, got, e)
					}
				}
			}
		}
	}
}
