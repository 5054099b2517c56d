package modes

import (
	"math"
	"slices"
	"testing"

	"narrator/api"
)

// The chapter's examples.
func TestExamples(t *testing.T) {
	m := Set(New(), '?', []int{25, 2048}, false)
	if m.Visible || m.Concealed {
		t.Errorf("Visible and Concealed are %t and %t", m.Visible, m.Concealed)
	}
	m = Designate(New(), "(", '0')
	if Map(m, 'q') != 0x2500 || Map(m, 'Q') != 'Q' {
		t.Errorf("q and Q are mapped to %U and %U", Map(m, 'q'), Map(m, 'Q'))
	}
}

// P11.1: the initial modes.
func TestNew(t *testing.T) {
	if want := (api.Modes{Wrap: true, Visible: true, Sets: [2]byte{'B', 'B'}}); New() != want {
		t.Errorf("New() = %v", New())
	}
}

// P11.1: each number of the table sets its mode and no other one, and clears it again.
func TestSetOneMode(t *testing.T) {
	plain := api.Modes{Sets: [2]byte{'B', 'B'}}
	for _, c := range []struct {
		private byte
		number  int
		want    api.Modes
	}{
		{0, 4, api.Modes{Insert: true, Sets: plain.Sets}}, {0, 20, api.Modes{NewLine: true, Sets: plain.Sets}},
		{'?', 1, api.Modes{Application: true, Sets: plain.Sets}}, {'?', 6, api.Modes{Origin: true, Sets: plain.Sets}},
		{'?', 7, api.Modes{Wrap: true, Sets: plain.Sets}}, {'?', 25, api.Modes{Visible: true, Sets: plain.Sets}},
		{'?', 47, api.Modes{Alternate: true, Sets: plain.Sets}}, {'?', 1047, api.Modes{Alternate: true, Sets: plain.Sets}},
		{'?', 1049, api.Modes{Alternate: true, Sets: plain.Sets}}, {'?', 2048, api.Modes{Concealed: true, Sets: plain.Sets}},
	} {
		params := []int{c.number}
		if got := Set(plain, c.private, params, true); got != c.want {
			t.Errorf("Set(%v, %d, %v, true) = %v", plain, c.private, params, got)
		}
		if got := Set(c.want, c.private, params, false); got != plain {
			t.Errorf("Set(%v, %d, %v, false) = %v", c.want, c.private, params, got)
		}
	}
}

// P11.1: numbers of the other marker, next to those of the table, negative and huge ones, and other markers denote no mode.
func TestSetIgnores(t *testing.T) {
	for _, c := range []struct {
		private byte
		params  []int
	}{
		{0, []int{1, 6, 7, 25, 47, 1047, 1049, 2048}}, {'?', []int{4, 20}}, {0, nil}, {'?', nil}, {0, []int{}}, {'?', []int{}},
		{0, []int{3, 5, 19, 21, 0, -4, -20, math.MinInt, math.MaxInt}},
		{'?', []int{0, 2, 5, 8, 24, 26, 46, 48, 1046, 1048, 1050, 2047, 2049, -1, -25, math.MinInt, math.MaxInt, 1<<32 + 25}},
		{'>', []int{1, 4, 20, 25, 47, 2048}}, {'=', []int{4, 25}}, {'<', []int{4, 25}}, {'0', []int{4, 20, 25}}, {' ', []int{4, 25}}, {1, []int{4, 25}}, {255, []int{4, 25}},
	} {
		for _, m := range samples() {
			if Set(m, c.private, c.params, true) != m || Set(m, c.private, c.params, false) != m {
				t.Errorf("Set(%v, %d, %v) changes the modes", m, c.private, c.params)
			}
		}
	}
}

// P11.1: lists with one number twice, with several numbers of one mode, and with numbers that denote no mode between others.
func TestSetLists(t *testing.T) {
	sets := New().Sets
	for _, c := range []struct {
		private byte
		params  []int
		on      bool
		want    api.Modes
	}{
		{0, []int{4, 4}, true, api.Modes{Insert: true, Wrap: true, Visible: true, Sets: sets}},
		{0, []int{4, 20}, true, api.Modes{Insert: true, NewLine: true, Wrap: true, Visible: true, Sets: sets}},
		{0, []int{-1, 4, 7, 20, 0}, true, api.Modes{Insert: true, NewLine: true, Wrap: true, Visible: true, Sets: sets}},
		{'?', []int{47, 1047, 1049}, true, api.Modes{Alternate: true, Wrap: true, Visible: true, Sets: sets}},
		{'?', []int{1049, 47}, false, api.Modes{Wrap: true, Visible: true, Sets: sets}},
		{'?', []int{7, 25, 7}, false, api.Modes{Sets: sets}},
		{'?', []int{1, 3, 6, -1, 2048, 4}, true, api.Modes{Application: true, Origin: true, Wrap: true, Visible: true, Concealed: true, Sets: sets}},
		{'?', []int{9999, 25, 9999}, false, api.Modes{Wrap: true, Sets: sets}},
	} {
		before := slices.Clone(c.params)
		if got := Set(New(), c.private, c.params, c.on); got != c.want {
			t.Errorf("Set(New(), %d, %v, %t) = %v", c.private, c.params, c.on, got)
		}
		if !slices.Equal(c.params, before) {
			t.Errorf("Set changes %v to %v", before, c.params)
		}
	}
}

// P11.1: Set with one number is as the chapter defines it, for all markers, and for numbers in and around the table.
func TestSetAsDefinedForNumbers(t *testing.T) {
	for _, private := range markers() {
		for _, number := range numbersAround() {
			params := []int{number}
			for _, on := range []bool{false, true} {
				for _, m := range samples() {
					if got, want := Set(m, private, params, on), chapterSet(m, private, params, on); got != want {
						t.Fatalf("Set(%v, %d, %v, %t) = %v, want %v", m, private, params, on, got, want)
					}
				}
			}
		}
	}
}

// P11.1: Set is as the chapter defines it for short lists over all modes, and from all combinations of modes.
func TestSetAsDefinedForLists(t *testing.T) {
	check := func(m api.Modes, private byte, params []int) {
		for _, on := range []bool{false, true} {
			if got, want := Set(m, private, params, on), chapterSet(m, private, params, on); got != want {
				t.Fatalf("Set(%v, %d, %v, %t) = %v, want %v", m, private, params, on, got, want)
			}
		}
	}
	for _, private := range []byte{0, '?', '>', '0'} {
		eachList(func(params []int) {
			for _, m := range samples() {
				check(m, private, params)
			}
		})
		eachFlags(api.Modes{Sets: [2]byte{'0', 'B'}, Shift: 1}, func(m api.Modes) {
			for _, number := range numbersAround() {
				check(m, private, []int{number})
				check(m, private, []int{25, number, 20})
			}
		})
	}
}

// P11.1: both character sets, and what designates none.
func TestDesignate(t *testing.T) {
	m := api.Modes{Insert: true, Visible: true, Sets: [2]byte{'x', 'y'}, Shift: 5}
	for _, c := range []struct {
		inter string
		code  byte
		want  [2]byte
	}{
		{"(", 'B', [2]byte{'B', 'y'}}, {"(", '0', [2]byte{'0', 'y'}}, {")", 'B', [2]byte{'x', 'B'}}, {")", '0', [2]byte{'x', '0'}},
		{"", 'B', m.Sets}, {"", '0', m.Sets}, {"*", '0', m.Sets}, {"+", 'B', m.Sets}, {"((", '0', m.Sets}, {"))", '0', m.Sets}, {"()", '0', m.Sets}, {")(", 'B', m.Sets},
		{" (", '0', m.Sets}, {"( ", '0', m.Sets}, {"(\x00", '0', m.Sets}, {"\x00", '0', m.Sets}, {"\xFF", 'B', m.Sets}, {"'", '0', m.Sets},
		{"(", 'A', m.Sets}, {")", 'A', m.Sets}, {"(", 'b', m.Sets}, {"(", 0, m.Sets}, {")", 1, m.Sets}, {"(", '1', m.Sets}, {")", '/', m.Sets}, {"(", 'C', m.Sets}, {")", 255, m.Sets},
		{"(", 'x', m.Sets}, {")", 'x', m.Sets},
	} {
		want := m
		want.Sets = c.want
		if got := Designate(m, c.inter, c.code); got != want {
			t.Errorf("Designate(%v, %q, %q) = %v", m, c.inter, c.code, got)
		}
	}
}

// P11.1: Designate is as the chapter defines it, for all codes and all strings of up to two bytes, and for all kinds of character sets.
func TestDesignateAsDefined(t *testing.T) {
	check := func(m api.Modes, inter string, code byte) {
		if got, want := Designate(m, inter, code), chapterDesignate(m, inter, code); got != want {
			t.Fatalf("Designate(%v, %q, %q) = %v, want %v", m, inter, code, got, want)
		}
	}
	for _, m := range samples() {
		for _, code := range markers() {
			check(m, "", code)
			for _, first := range markers() {
				check(m, string([]byte{first}), code)
			}
			for _, second := range []byte{'(', ')', '*', ' ', 0} {
				check(m, string([]byte{'(', second}), code)
				check(m, string([]byte{second, ')'}), code)
			}
		}
	}
	eachCharacterSets(func(m api.Modes) {
		for _, inter := range []string{"(", ")", "", "*", "()"} {
			for _, code := range []byte{'B', '0', 'A', 0, 0xFF} {
				check(m, inter, code)
			}
		}
	})
}

// P11.1: the two indexes, and numbers that are none.
func TestShift(t *testing.T) {
	m := api.Modes{Origin: true, Alternate: true, Sets: [2]byte{'0', 'B'}, Shift: 7}
	for _, c := range []struct{ i, want int }{
		{0, 0}, {1, 1}, {2, 7}, {3, 7}, {-1, 7}, {-2, 7}, {7, 7}, {math.MinInt, 7}, {math.MaxInt, 7}, {1 << 32, 7}, {1<<32 + 1, 7}, {1 << 8, 7}, {1<<8 + 1, 7},
	} {
		want := m
		want.Shift = c.want
		if got := Shift(m, c.i); got != want {
			t.Errorf("Shift(%v, %d) = %v", m, c.i, got)
		}
	}
}

// P11.1: Shift is as the chapter defines it, for all kinds of character sets and shifts, and with all combinations of modes.
func TestShiftAsDefined(t *testing.T) {
	check := func(m api.Modes) {
		for _, i := range append([]int{-2, -1, 0, 1, 2, 3, 'B', '0'}, hugeNumbers...) {
			if got, want := Shift(m, i), chapterShift(m, i); got != want {
				t.Fatalf("Shift(%v, %d) = %v, want %v", m, i, got, want)
			}
		}
	}
	eachCharacterSets(check)
	eachFlags(New(), check)
}

// P11.1: the special graphics, with the characters next to those that are replaced.
func TestMap(t *testing.T) {
	m := api.Modes{Sets: [2]byte{'0', 'B'}}
	for _, c := range []struct{ r, want rune }{
		{'_', 0xA0}, {'`', 0x25C6}, {'a', 0x2592}, {'b', 0x2409}, {'c', 0x240C}, {'d', 0x240D}, {'e', 0x240A}, {'f', 0xB0}, {'g', 0xB1}, {'h', 0x2424}, {'i', 0x240B},
		{'j', 0x2518}, {'k', 0x2510}, {'l', 0x250C}, {'m', 0x2514}, {'n', 0x253C}, {'o', 0x23BA}, {'p', 0x23BB}, {'q', 0x2500}, {'r', 0x23BC}, {'s', 0x23BD},
		{'t', 0x251C}, {'u', 0x2524}, {'v', 0x2534}, {'w', 0x252C}, {'x', 0x2502}, {'y', 0x2264}, {'z', 0x2265}, {'{', 0x3C0}, {'|', 0x2260}, {'}', 0xA3}, {'~', 0xB7},
		{'^', '^'}, {0x7F, 0x7F}, {'Q', 'Q'}, {' ', ' '}, {0, 0}, {-1, -1}, {0x2500, 0x2500}, {0x15F, 0x15F}, {0x10FFFF, 0x10FFFF}, {math.MinInt32, math.MinInt32}, {math.MaxInt32, math.MaxInt32},
	} {
		if got := Map(m, c.r); got != c.want {
			t.Errorf("Map(%v, %U) = %U", m, c.r, got)
		}
		if got := Map(Shift(m, 1), c.r); got != c.r {
			t.Errorf("with the active set B, Map of %U is %U", c.r, got)
		}
	}
}

// P11.1: which of the two sets is active.
func TestMapWithSets(t *testing.T) {
	for _, c := range []struct {
		sets  [2]byte
		shift int
		want  rune
	}{
		{[2]byte{'0', 'B'}, 0, 0x2500}, {[2]byte{'0', 'B'}, 1, 'q'}, {[2]byte{'B', '0'}, 0, 'q'}, {[2]byte{'B', '0'}, 1, 0x2500},
		{[2]byte{'0', '0'}, 0, 0x2500}, {[2]byte{'0', '0'}, 1, 0x2500}, {[2]byte{'B', 'B'}, 0, 'q'}, {[2]byte{'B', 'B'}, 1, 'q'},
		{[2]byte{'0', 'B'}, 2, 0x2500}, {[2]byte{'0', 'B'}, -1, 0x2500}, {[2]byte{'0', 'B'}, 1<<32 + 1, 0x2500}, {[2]byte{'0', 'B'}, math.MinInt + 1, 0x2500},
		{[2]byte{'B', '0'}, 2, 'q'}, {[2]byte{'B', '0'}, -1, 'q'}, {[2]byte{'B', '0'}, math.MaxInt, 'q'}, {[2]byte{'B', '0'}, 1<<32 + 1, 'q'},
		{[2]byte{0, 0}, 0, 'q'}, {[2]byte{0, 0}, 1, 'q'}, {[2]byte{'A', 'x'}, 0, 'q'}, {[2]byte{'A', 'x'}, 1, 'q'}, {[2]byte{'0', 'x'}, 1, 'q'}, {[2]byte{'x', '0'}, 0, 'q'},
	} {
		m := New()
		m.Sets, m.Shift = c.sets, c.shift
		if got := Map(m, 'q'); got != c.want {
			t.Errorf("with the sets %q and the Shift %d, q is mapped to %U", c.sets, c.shift, got)
		}
	}
}

// P11.1: Map is as the chapter defines it, for all kinds of character sets and shifts.
func TestMapAsDefined(t *testing.T) {
	graphics := chapterGraphics()
	eachCharacterSets(func(m api.Modes) {
		for r := rune(0x50); r <= 0x90; r++ {
			if got, want := Map(m, r), chapterMap(m, r, graphics); got != want {
				t.Fatalf("Map(%v, %U) = %U, want %U", m, r, got, want)
			}
		}
	})
	for _, m := range append(samples(), api.Modes{Sets: [2]byte{'0', '0'}}) {
		eachCharacter(func(r rune) {
			if got, want := Map(m, r), chapterMap(m, r, graphics); got != want {
				t.Fatalf("Map(%v, %U) = %U, want %U", m, r, got, want)
			}
		})
	}
}
