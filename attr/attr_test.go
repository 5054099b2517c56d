package attr

import (
	"fmt"
	"math"
	"math/rand"
	"slices"
	"strconv"
	"strings"
	"testing"

	"narrator/api"
)

// flagNames are the flags in the order of the chapter, whose numbers are the powers of two.
var flagNames = strings.Fields("Bold Faint Italic Underline Blink Reverse Conceal Strike")

// The rows of the chapter's table that set and clear flags: numbers and, in the same order, names.
var (
	settingNumbers  = strings.Fields("1 2 3 4 5 7 8 9")
	clearingNumbers = strings.Fields("23 24 25 27 28 29")
	clearedNames    = strings.Fields("Italic Underline Blink Reverse Conceal Strike")
)

// rendition is a rendition in other terms than those of the program: flags by name, colors in text.
type rendition struct {
	flags map[string]bool
	color map[string]string // of "Fore" and "Back"
}

// defaultRendition returns the default rendition in the words of the chapter: both colors -1, no flags.
func defaultRendition() rendition {
	return rendition{map[string]bool{}, map[string]string{"Fore": "-1", "Back": "-1"}}
}

// renditionOf returns a proper rendition in these terms.
func renditionOf(a api.Attr) rendition {
	r := defaultRendition()
	for k, name := range flagNames {
		r.flags[name] = a.Flags>>k%2 == 1
	}
	r.color["Fore"] = strconv.Itoa(a.Fore)
	r.color["Back"] = strconv.Itoa(a.Back)
	return r
}

// attr returns what the rendition is in terms of the program.
func (r rendition) attr() api.Attr {
	a := api.Attr{}
	for k, name := range flagNames {
		if r.flags[name] {
			a.Flags += 1 << k
		}
	}
	a.Fore, _ = strconv.Atoi(r.color["Fore"])
	a.Back, _ = strconv.Atoi(r.color["Back"])
	return a
}

// chapterEffects returns the effects of the rows of the chapter's table, but for 0, 38 and 48, by numbers in text.
func chapterEffects() map[string]func(rendition) {
	effects := map[string]func(rendition){}
	flag := func(number, name string, to bool) {
		before := effects[number]
		effects[number] = func(r rendition) {
			if before != nil {
				before(r)
			}
			r.flags[name] = to
		}
	}
	for k, number := range settingNumbers {
		flag(number, flagNames[k], true)
	}
	for k, number := range clearingNumbers {
		flag(number, clearedNames[k], false)
	}
	flag("22", "Bold", false)
	flag("22", "Faint", false)
	color := func(number, plane, to string) {
		effects[number] = func(r rendition) { r.color[plane] = to }
	}
	for k := range 8 {
		color("3"+strconv.Itoa(k), "Fore", strconv.Itoa(k))
		color("4"+strconv.Itoa(k), "Back", strconv.Itoa(k))
		color("9"+strconv.Itoa(k), "Fore", strconv.Itoa(90+k-82))
		color("10"+strconv.Itoa(k), "Back", strconv.Itoa(100+k-92))
	}
	color("39", "Fore", "-1")
	color("49", "Back", "-1")
	return effects
}

var effects = chapterEffects()

// chapterLevel returns n * 5 / 255, rounded down, as the number of the bounds that n reaches.
func chapterLevel(n int) int {
	reached := 0
	for _, bound := range []int{51, 102, 153, 204, 255} {
		if n >= bound {
			reached++
		}
	}
	return reached
}

// chapterColor reads a color from the front of a list; ok tells whether there is one.
func chapterColor(l []int) (color int, rest []int, ok bool) {
	fits := func(k int) bool {
		return slices.IndexFunc(l[:k], func(n int) bool { return n < 0 || n > 255 }) < 0
	}
	if len(l) < 2 || l[0] != 5 && l[0] != 2 {
		return 0, nil, false
	}
	if l[0] == 5 {
		return l[1], l[2:], fits(2)
	}
	if len(l) < 4 {
		return 0, nil, false
	}
	color = 16
	color += 36 * chapterLevel(l[1])
	color += 6 * chapterLevel(l[2])
	color += chapterLevel(l[3])
	return color, l[4:], fits(4)
}

// chapterApply returns the rendition after parameters as the chapter defines it.
func chapterApply(a api.Attr, params []int) api.Attr {
	if len(params) == 0 {
		return chapterApply(a, []int{0})
	}
	var l []int
	for _, n := range params {
		if n < 0 {
			n = 0
		}
		l = append(l, n)
	}
	r := renditionOf(a)
	for len(l) > 0 {
		n := l[0]
		l = l[1:]
		if n == 0 {
			r = defaultRendition()
		}
		if n == 38 || n == 48 {
			color, rest, ok := chapterColor(l)
			if !ok {
				break
			}
			r.color[map[int]string{38: "Fore", 48: "Back"}[n]] = strconv.Itoa(color)
			l = rest
		}
		if effect := effects[strconv.Itoa(n)]; effect != nil {
			effect(r)
		}
	}
	return r.attr()
}

// chapterParams returns the list of Params as the chapter defines it.
func chapterParams(a api.Attr) []int {
	text := "0"
	for k, number := range settingNumbers {
		if renditionOf(a).flags[flagNames[k]] {
			text += " " + number
		}
	}
	color := func(color, dark, bright int, looked string) {
		if color >= 0 && color <= 7 {
			text += fmt.Sprint(" ", dark+color)
		} else if color >= 8 && color <= 15 {
			text += fmt.Sprint(" ", bright+color)
		} else if color >= 16 {
			text += fmt.Sprint(" ", looked, " 5 ", color)
		}
	}
	color(a.Fore, 30, 82, "38")
	color(a.Back, 40, 92, "48")
	var l []int
	for _, field := range strings.Fields(text) {
		n, _ := strconv.Atoi(field)
		l = append(l, n)
	}
	return l
}

// sampleColors are colors from both sides of each bound of the chapter.
var sampleColors = []int{-1, 0, 1, 7, 8, 15, 16, 17, 231, 254, 255}

// sampleRenditions are proper renditions with every kind of color and with each flag set and not set.
func sampleRenditions() []api.Attr {
	l := []api.Attr{{Fore: -1, Back: -1}, {Fore: 3, Back: 20, Flags: 255}, {Fore: 255, Back: 0, Flags: 0x55}, {Fore: 9, Back: 255, Flags: 0xAA}}
	for k := range 8 {
		l = append(l, api.Attr{Fore: 16 + k, Back: 40 + k, Flags: 1 << k}, api.Attr{Fore: -1, Back: 7, Flags: 255 - 1<<k})
	}
	return l
}

// extremes are the least and the greatest numbers.
var extremes = []int{math.MinInt, math.MinInt + 1, math.MinInt32, math.MaxInt32, math.MaxInt - 1, math.MaxInt}

// checkApply compares Apply with the chapter and tests that its result is proper, and that applying it again changes nothing.
func checkApply(t *testing.T, a api.Attr, params []int) {
	t.Helper()
	before := slices.Clone(params)
	got, want := Apply(a, params), chapterApply(a, params)
	if got != want {
		t.Errorf("P4.1: Apply(%v, %v) = %v, want %v", a, params, got, want)
	}
	if e := Check(got); e != api.OK {
		t.Errorf("P4.1: Apply(%v, %v) = %v, which is not proper", a, params, got)
	}
	if twice := Apply(got, params); twice != got {
		t.Errorf("P4.3: Apply(%v, %v) = %v, and applied again %v", a, params, got, twice)
	}
	if !slices.Equal(before, params) {
		t.Errorf("Apply(%v, %v) changed the parameters to %v", a, before, params)
	}
}

// eachList calls f for all lists of the given length over numbers.
func eachList(numbers []int, length int, f func([]int)) {
	list := make([]int, length)
	var fill func(int)
	fill = func(k int) {
		if k == length {
			f(list)
			return
		}
		for _, n := range numbers {
			list[k] = n
			fill(k + 1)
		}
	}
	fill(0)
}

// P4.1: the default rendition has both colors -1 and no flags, and is proper.
func TestDefault(t *testing.T) {
	if a := Default(); a != (api.Attr{Fore: -1, Back: -1, Flags: 0}) {
		t.Errorf("Default() = %v", a)
	}
	if e := Check(Default()); e != api.OK {
		t.Errorf("Check(Default()) = %d", e)
	}
}

// P4.1: Check at and beyond every bound of each field, alone and together.
func TestCheck(t *testing.T) {
	numbers := append([]int{-300, -256, -129, -128, -2, -1, 0, 1, 100, 127, 128, 254, 255, 256, 257, 511, 512}, extremes...)
	for _, fore := range numbers {
		for _, back := range numbers {
			for _, flags := range numbers {
				want := api.ErrRange
				if -1 <= fore && fore <= 255 && -1 <= back && back <= 255 && 0 <= flags && flags <= 255 {
					want = api.OK
				}
				if got := Check(api.Attr{Fore: fore, Back: back, Flags: flags}); got != want {
					t.Errorf("Check(%d, %d, %d) = %d, want %d", fore, back, flags, got, want)
				}
			}
		}
	}
}

// P4.1: the chapter's examples.
func TestExamples(t *testing.T) {
	a := Apply(Default(), []int{1, 38, 5, 200, 4})
	if want := (api.Attr{Fore: 200, Back: -1, Flags: api.Bold + api.Underline}); a != want {
		t.Errorf("Apply = %v, want %v", a, want)
	}
	if l := Params(a); !slices.Equal(l, []int{0, 1, 4, 38, 5, 200}) {
		t.Errorf("Params = %v", l)
	}
	if s := Style(a); s != 1 {
		t.Errorf("Style = %d, want 1", s)
	}
	if a := Apply(Default(), []int{31, 38, 5}); a != (api.Attr{Fore: 1, Back: -1}) {
		t.Errorf("Apply = %v, want only the foreground color 1", a)
	}
}

// P4.1: lists whose results are written out.
func TestApplyCases(t *testing.T) {
	plain := api.Attr{Fore: -1, Back: -1}
	full := api.Attr{Fore: 3, Back: 20, Flags: 255}
	for _, c := range []struct {
		name   string
		a      api.Attr
		params []int
		want   api.Attr
	}{
		{"nil is 0", full, nil, plain},
		{"the empty list is 0", full, []int{}, plain},
		{"0", full, []int{0}, plain},
		{"a negative number is 0", full, []int{-7}, plain},
		{"a negative number between others is 0", full, []int{1, -1, 4}, api.Attr{Fore: -1, Back: -1, Flags: 8}},
		{"the least number is 0", full, []int{math.MinInt}, plain},
		{"0 after and before others", full, []int{31, 0, 42}, api.Attr{Fore: -1, Back: 2}},
		{"all flags", plain, []int{1, 2, 3, 4, 5, 7, 8, 9}, api.Attr{Fore: -1, Back: -1, Flags: 255}},
		{"22 clears two flags", full, []int{22}, api.Attr{Fore: 3, Back: 20, Flags: 252}},
		{"no flag is cleared that is not set", plain, []int{22, 23, 24, 25, 27, 28, 29}, plain},
		{"the last number counts", plain, []int{3, 23, 24, 4, 31, 32}, api.Attr{Fore: 2, Back: -1, Flags: 8}},
		{"numbers without effect", full, []int{6, 10, 21, 26, 50, 89, 98, 99, 108, 300, 9999, math.MaxInt}, full},
		{"dark colors", plain, []int{30, 47}, api.Attr{Fore: 0, Back: 7}},
		{"bright colors", plain, []int{90, 107}, api.Attr{Fore: 8, Back: 15}},
		{"default foreground", full, []int{39}, api.Attr{Fore: -1, Back: 20, Flags: 255}},
		{"default background", full, []int{49}, api.Attr{Fore: 3, Back: -1, Flags: 255}},
		{"the first and the last index", plain, []int{38, 5, 0, 48, 5, 255}, api.Attr{Fore: 0, Back: 255}},
		{"a negative index is 0", plain, []int{38, 5, -1, 1}, api.Attr{Fore: 0, Back: -1, Flags: 1}},
		{"an index beyond the last", plain, []int{4, 38, 5, 256, 1, 31}, api.Attr{Fore: -1, Back: -1, Flags: 8}},
		{"the greatest index", plain, []int{4, 48, 5, math.MaxInt, 1}, api.Attr{Fore: -1, Back: -1, Flags: 8}},
		{"no components", plain, []int{38, 2, 0, 0, 0, 1}, api.Attr{Fore: 16, Back: -1, Flags: 1}},
		{"full components", plain, []int{48, 2, 255, 255, 255, 1}, api.Attr{Fore: -1, Back: 231, Flags: 1}},
		{"red", plain, []int{38, 2, 255, 0, 0}, api.Attr{Fore: 196, Back: -1}},
		{"green", plain, []int{38, 2, 0, 255, 0}, api.Attr{Fore: 46, Back: -1}},
		{"blue", plain, []int{38, 2, 0, 0, 255}, api.Attr{Fore: 21, Back: -1}},
		{"components below levels", plain, []int{38, 2, 50, 101, 254}, api.Attr{Fore: 16 + 6 + 4, Back: -1}},
		{"components at levels", plain, []int{38, 2, 51, 102, 255}, api.Attr{Fore: 16 + 36 + 12 + 5, Back: -1}},
		{"negative components are 0", plain, []int{38, 2, -1, math.MinInt, -255, 1}, api.Attr{Fore: 16, Back: -1, Flags: 1}},
		{"the first component beyond the last", plain, []int{38, 2, 256, 0, 0, 1}, plain},
		{"the second component beyond the last", plain, []int{38, 2, 0, 256, 0, 1}, plain},
		{"the third component beyond the last", plain, []int{38, 2, 0, 0, 256, 1}, plain},
		{"nothing after 38", full, []int{38}, full},
		{"nothing after 48", full, []int{48}, full},
		{"no index", full, []int{38, 5}, full},
		{"two components", full, []int{48, 2, 1, 2}, full},
		{"anything else after 38", full, []int{38, 3, 1, 31, 22}, full},
		{"38 after 38", full, []int{38, 38, 5, 1}, full},
		{"0 after 38 does not reset", full, []int{38, 0, 1}, full},
		{"a negative number after 48 does not reset", full, []int{48, -1, 1}, full},
		{"5 after an index sets a flag", plain, []int{38, 5, 5, 5}, api.Attr{Fore: 5, Back: -1, Flags: 16}},
		{"a number after components", plain, []int{48, 2, 2, 2, 2, 2}, api.Attr{Fore: -1, Back: 16, Flags: 2}},
		{"an index does not set flags", plain, []int{38, 5, 1}, api.Attr{Fore: 1, Back: -1}},
	} {
		if got := Apply(c.a, c.params); got != c.want {
			t.Errorf("%s: Apply(%v, %v) = %v, want %v", c.name, c.a, c.params, got, c.want)
		}
		checkApply(t, c.a, c.params)
	}
}

// P4.1: each number alone and before another one, with those that have no effect.
func TestApplyEachNumber(t *testing.T) {
	numbers := slices.Clone(extremes)
	for n := -300; n <= 1200; n++ {
		numbers = append(numbers, n)
	}
	for _, a := range sampleRenditions() {
		for _, n := range numbers {
			checkApply(t, a, []int{n})
			checkApply(t, a, []int{n, 4})
			checkApply(t, a, []int{94, n})
		}
	}
}

// P4.1: all short lists over numbers of each row of the table.
func TestApplyShortLists(t *testing.T) {
	rows := []int{-1, 0, 1, 2, 5, 6, 8, 9, 22, 23, 28, 30, 37, 38, 39, 40, 47, 48, 49, 90, 97, 100, 107, 256}
	for length := range 4 {
		eachList(rows, length, func(l []int) {
			checkApply(t, api.Attr{Fore: 3, Back: 20, Flags: 0xA5}, l)
			checkApply(t, Default(), l)
		})
	}
}

// P4.1: all lists of up to five numbers after 38 and 48, over numbers at and beyond the bounds.
func TestApplyDenotedColors(t *testing.T) {
	numbers := []int{math.MinInt, 0, 1, 2, 5, 255, 256}
	for length := range 6 {
		eachList(numbers, length, func(l []int) {
			checkApply(t, api.Attr{Fore: 3, Back: 20, Flags: 0x82}, append([]int{38}, l...))
			checkApply(t, api.Attr{Fore: 3, Back: 20, Flags: 0x82}, append([]int{48}, l...))
		})
	}
}

// P4.1: every index and every component of a color, with the numbers next to them.
func TestApplyEachColor(t *testing.T) {
	for _, plane := range []int{38, 48} {
		for n := -10; n <= 520; n++ {
			checkApply(t, Default(), []int{plane, 5, n, 3})
			for _, other := range []int{-1, 0, 51, 200, 255} {
				checkApply(t, Default(), []int{plane, 2, n, other, 128, 3})
				checkApply(t, Default(), []int{plane, 2, other, n, 204, 3})
				checkApply(t, Default(), []int{plane, 2, 50, other, n, 3})
			}
		}
	}
}

// P4.1 and P4.3: random lists of many numbers.
func TestApplyRandomLists(t *testing.T) {
	random := rand.New(rand.NewSource(4))
	likely := []int{38, 48, 5, 2, 0, 255}
	for range 100000 {
		l := make([]int, random.Intn(20))
		for i := range l {
			if random.Intn(2) == 0 {
				l[i] = likely[random.Intn(len(likely))]
			} else {
				l[i] = random.Intn(270) - 5
			}
		}
		a := api.Attr{Fore: random.Intn(257) - 1, Back: random.Intn(257) - 1, Flags: random.Intn(256)}
		checkApply(t, a, l)
	}
}

// checkParams compares Params with the chapter and tests that the numbers lead from any rendition to this one.
func checkParams(t *testing.T, a api.Attr, from []api.Attr) {
	t.Helper()
	l := Params(a)
	if want := chapterParams(a); !slices.Equal(l, want) {
		t.Errorf("P4.1: Params(%v) = %v, want %v", a, l, want)
	}
	if len(l) > 15 {
		t.Errorf("P4.2: Params(%v) = %v, which are %d numbers", a, l, len(l))
	}
	for _, b := range from {
		if got := Apply(b, l); got != a {
			t.Errorf("P4.2: Apply(%v, Params(%v)) = %v", b, a, got)
		}
	}
}

// P4.1: lists of Params that are written out.
func TestParamsCases(t *testing.T) {
	for _, c := range []struct {
		a    api.Attr
		want []int
	}{
		{api.Attr{Fore: -1, Back: -1}, []int{0}},
		{api.Attr{Fore: 0, Back: -1}, []int{0, 30}},
		{api.Attr{Fore: 7, Back: 0}, []int{0, 37, 40}},
		{api.Attr{Fore: 8, Back: 7}, []int{0, 90, 47}},
		{api.Attr{Fore: 15, Back: 8}, []int{0, 97, 100}},
		{api.Attr{Fore: 16, Back: 15}, []int{0, 38, 5, 16, 107}},
		{api.Attr{Fore: -1, Back: 16}, []int{0, 48, 5, 16}},
		{api.Attr{Fore: -1, Back: -1, Flags: 255}, []int{0, 1, 2, 3, 4, 5, 7, 8, 9}},
		{api.Attr{Fore: 255, Back: 16, Flags: 255}, []int{0, 1, 2, 3, 4, 5, 7, 8, 9, 38, 5, 255, 48, 5, 16}},
	} {
		if l := Params(c.a); !slices.Equal(l, c.want) {
			t.Errorf("Params(%v) = %v, want %v", c.a, l, c.want)
		}
	}
}

// P4.1 and P4.2: all flags with sample colors, applied to every sample, and all pairs of colors.
func TestParams(t *testing.T) {
	from := append(sampleRenditions(), api.Attr{Fore: math.MinInt, Back: math.MaxInt, Flags: math.MinInt}, api.Attr{Fore: 300, Back: -2, Flags: -1})
	for flags := range 256 {
		for _, fore := range sampleColors {
			for _, back := range sampleColors {
				checkParams(t, api.Attr{Fore: fore, Back: back, Flags: flags}, from)
			}
		}
	}
	for fore := -1; fore <= 255; fore++ {
		for back := -1; back <= 255; back++ {
			checkParams(t, api.Attr{Fore: fore, Back: back, Flags: fore & back & 255}, from[1:2])
		}
	}
}

// Params returns new memory at each call.
func TestParamsIsNew(t *testing.T) {
	a := api.Attr{Fore: 100, Back: 100, Flags: 255}
	first := Params(a)
	clear(first)
	if l := Params(a); !slices.Equal(l, chapterParams(a)) {
		t.Errorf("Params(%v) = %v after its last result was changed", a, l)
	}
}

// P4.1: the style of all flags, whatever the colors are.
func TestStyle(t *testing.T) {
	for flags := range 256 {
		set := renditionOf(api.Attr{Flags: flags}).flags
		want := 0
		if set["Bold"] || set["Italic"] || set["Underline"] || set["Blink"] {
			want = 1
		}
		if set["Reverse"] {
			want = 2
		}
		if set["Conceal"] {
			want = 3
		}
		for _, color := range sampleColors {
			for _, a := range []api.Attr{{Fore: color, Back: -1, Flags: flags}, {Fore: 5, Back: color, Flags: flags}} {
				if got := Style(a); got != want {
					t.Errorf("Style(%v) = %d, want %d", a, got, want)
				}
			}
		}
	}
}

// P4.4: numbers for flags keep the colors, numbers for colors keep the flags, and 0 changes both.
func TestIndependence(t *testing.T) {
	flags := []int{1, 2, 3, 4, 5, 7, 8, 9, 22, 23, 24, 25, 27, 28, 29}
	colors := [][]int{{39}, {49}, {38, 5, 1}, {48, 5, 22}, {38, 2, 1, 2, 3}, {48, 2, 4, 5, 7}, {38, 5}, {48, 2, 1, 1}, {38}}
	for n := range 8 {
		colors = append(colors, []int{30 + n}, []int{40 + n}, []int{90 + n}, []int{100 + n})
	}
	for all := range 256 {
		for _, color := range sampleColors {
			a := api.Attr{Fore: color, Back: 254 - max(color, 0), Flags: all}
			for _, n := range flags {
				if got := Apply(a, []int{n}); got.Fore != a.Fore || got.Back != a.Back {
					t.Errorf("Apply(%v, %d) = %v changes the colors", a, n, got)
				}
			}
			for _, l := range colors {
				if got := Apply(a, l); got.Flags != a.Flags {
					t.Errorf("Apply(%v, %v) = %v changes the flags", a, l, got)
				}
			}
			if got := Apply(a, []int{0}); got != Default() {
				t.Errorf("Apply(%v, 0) = %v", a, got)
			}
		}
	}
}

// P4.4: numbers for the foreground keep the background, and the other way round.
func TestIndependenceOfPlanes(t *testing.T) {
	a := api.Attr{Fore: 77, Back: 88, Flags: 99}
	for n := range 8 {
		for _, l := range [][]int{{30 + n}, {90 + n}, {38, 5, n}, {38, 2, n, n, n}, {39}} {
			if got := Apply(a, l); got.Back != a.Back || got.Fore == a.Fore {
				t.Errorf("Apply(%v, %v) = %v", a, l, got)
			}
		}
		for _, l := range [][]int{{40 + n}, {100 + n}, {48, 5, n}, {48, 2, n, n, n}, {49}} {
			if got := Apply(a, l); got.Fore != a.Fore || got.Back == a.Back {
				t.Errorf("Apply(%v, %v) = %v", a, l, got)
			}
		}
	}
}

// Renditions that are not proper: all functions return.
func TestNotProper(t *testing.T) {
	numbers := append([]int{-2, 256, 1000}, extremes...)
	for _, fore := range numbers {
		for _, back := range numbers {
			for _, flags := range numbers {
				a := api.Attr{Fore: fore, Back: back, Flags: flags}
				if e := Check(a); e != api.ErrRange {
					t.Errorf("Check(%v) = %d, want %d", a, e, api.ErrRange)
				}
				Params(a)
				Style(a)
				Apply(a, []int{1, 22, 31, 107, 38, 5, 3, 48, 2, 1, 2, 3, 38})
				Apply(a, numbers)
				Apply(a, nil)
			}
		}
	}
}
