package modes

import (
	"math"
	"slices"

	"narrator/api"
)

// denoted is a row of the chapter's table: numbers that denote a mode for a private marker, and the mode as a flag.
type denoted struct {
	private byte
	numbers []int
	flag    int
}

// Flags are the modes that are either set or not, in the order of the chapter's table.
const (
	insert = iota
	newLine
	application
	origin
	wrap
	visible
	alternate
	concealed
	flags // how many there are
)

// chapterTable returns the chapter's table.
func chapterTable() []denoted {
	return []denoted{
		{0, []int{4}, insert}, {0, []int{20}, newLine},
		{'?', []int{1}, application}, {'?', []int{6}, origin}, {'?', []int{7}, wrap}, {'?', []int{25}, visible},
		{'?', []int{47, 1047, 1049}, alternate}, {'?', []int{2048}, concealed},
	}
}

// chapterFlag returns the flag that a number denotes for a private marker, or -1.
func chapterFlag(private byte, number int) int {
	for _, row := range chapterTable() {
		if row.private == private && slices.Contains(row.numbers, number) {
			return row.flag
		}
	}
	return -1
}

// flagsOf returns the flags of modes.
func flagsOf(m api.Modes) [flags]bool {
	return [flags]bool{m.Insert, m.NewLine, m.Application, m.Origin, m.Wrap, m.Visible, m.Alternate, m.Concealed}
}

// withFlags returns modes with other flags.
func withFlags(m api.Modes, f [flags]bool) api.Modes {
	return api.Modes{
		Insert: f[insert], NewLine: f[newLine], Application: f[application], Origin: f[origin],
		Wrap: f[wrap], Visible: f[visible], Alternate: f[alternate], Concealed: f[concealed],
		Sets: m.Sets, Shift: m.Shift,
	}
}

// chapterSet returns the result of Set as the chapter defines it.
func chapterSet(m api.Modes, private byte, params []int, on bool) api.Modes {
	f := flagsOf(m)
	for _, number := range params {
		if flag := chapterFlag(private, number); flag >= 0 {
			f[flag] = on
		}
	}
	return withFlags(m, f)
}

// chapterDesignate returns the result of Designate as the chapter defines it.
func chapterDesignate(m api.Modes, inter string, code byte) api.Modes {
	known := code == 'B' || code == '0'
	if known && inter == "(" {
		m.Sets = [2]byte{code, m.Sets[1]}
	}
	if known && inter == ")" {
		m.Sets = [2]byte{m.Sets[0], code}
	}
	return m
}

// chapterShift returns the result of Shift as the chapter defines it.
func chapterShift(m api.Modes, i int) api.Modes {
	if slices.Contains([]int{0, 1}, i) {
		m.Shift = i
	}
	return m
}

// chapterGraphics returns the special graphics as a map, as the chapter lists them.
func chapterGraphics() map[rune]rune {
	graphics := map[rune]rune{}
	replaced := rune(0x5F)
	for _, r := range "\u00A0\u25C6\u2592\u2409\u240C\u240D\u240A\u00B0\u00B1\u2424\u240B\u2518\u2510\u250C\u2514\u253C" +
		"\u23BA\u23BB\u2500\u23BC\u23BD\u251C\u2524\u2534\u252C\u2502\u2264\u2265\u03C0\u2260\u00A3\u00B7" {
		graphics[replaced] = r
		replaced++
	}
	return graphics
}

// chapterActive returns the active set as the chapter defines it.
func chapterActive(m api.Modes) byte {
	if m.Shift == 1 {
		return m.Sets[1]
	}
	return m.Sets[0]
}

// chapterMap returns the result of Map as the chapter defines it.
func chapterMap(m api.Modes, r rune, graphics map[rune]rune) rune {
	replacement, replaced := graphics[r]
	if replaced && chapterActive(m) == '0' {
		return replacement
	}
	return r
}

// hugeNumbers are far beyond all numbers on both sides; some of them have a number of a mode or a Shift as their lower bits.
var hugeNumbers = []int{
	math.MinInt, math.MinInt + 1, math.MinInt + 4, -1 << 62, math.MinInt32, -1<<32 + 7, 1 << 32, 1<<32 + 1, 1<<32 + 4, 1<<32 + 25, 1<<32 + 2048,
	1<<16 + 1, 1<<16 + 20, 1<<8 + 4, math.MaxInt32, 1 << 62, 1<<62 + 1, math.MaxInt - 1, math.MaxInt,
}

// numbersAround returns the numbers of the chapter's table, those next to them, 0, negative and huge ones.
func numbersAround() []int {
	numbers := append([]int{-2, -1, 0, 1048, 1006, 2004, 9999}, hugeNumbers...)
	for _, row := range chapterTable() {
		for _, n := range row.numbers {
			numbers = append(numbers, n-1, n, n+1, -n)
		}
	}
	slices.Sort(numbers)
	return slices.Compact(numbers)
}

// markers returns all private markers.
func markers() []byte {
	all := make([]byte, 256)
	for i := range all {
		all[i] = byte(i)
	}
	return all
}

// eachFlags calls a function with modes that have all combinations of flags.
func eachFlags(m api.Modes, use func(m api.Modes)) {
	for bits := range 1 << flags {
		var f [flags]bool
		for flag := range f {
			f[flag] = bits>>flag&1 == 1
		}
		use(withFlags(m, f))
	}
}

// eachCharacterSets calls a function with modes that have the initial flags, or none or all of them, and all kinds of character sets and shifts.
func eachCharacterSets(use func(m api.Modes)) {
	codes := []byte{'B', '0', 'A', 0, 1, 0xFF}
	all := [flags]bool{true, true, true, true, true, true, true, true}
	for _, first := range codes {
		for _, second := range codes {
			for _, shift := range append([]int{-2, -1, 0, 1, 2, 3}, hugeNumbers...) {
				m := api.Modes{Sets: [2]byte{first, second}, Shift: shift}
				use(m)
				use(withFlags(m, flagsOf(New())))
				use(withFlags(m, all))
			}
		}
	}
}

// samples returns modes of different kinds: the initial and the zero ones, and others with all and with some flags.
func samples() []api.Modes {
	return []api.Modes{
		New(), {},
		{Insert: true, NewLine: true, Application: true, Origin: true, Wrap: true, Visible: true, Alternate: true, Concealed: true, Sets: [2]byte{'0', 'B'}, Shift: 1},
		{Insert: true, Application: true, Wrap: true, Alternate: true, Sets: [2]byte{'B', '0'}, Shift: -7},
		{NewLine: true, Origin: true, Visible: true, Concealed: true, Sets: [2]byte{'x', 0}, Shift: math.MaxInt},
	}
}

// eachList calls a function with all lists of up to three numbers that denote all modes, or none.
func eachList(use func(params []int)) {
	numbers := []int{4, 20, 1, 6, 7, 25, 47, 1047, 1049, 2048, 0, -1, 5, math.MaxInt}
	use(nil)
	for _, first := range numbers {
		use([]int{first})
		for _, second := range numbers {
			use([]int{first, second})
			for _, third := range numbers {
				use([]int{first, second, third})
			}
		}
	}
}

// eachCharacter calls a function with characters in and around those that are replaced, with their replacements, and with negative and huge numbers.
func eachCharacter(use func(r rune)) {
	for r := rune(-0x200); r <= 0x3000; r++ {
		use(r)
	}
	for _, r := range []rune{0xD800, 0xFFFD, 0x10FFFF, 0x110000, 0x10000 + 'q', 0x1000000 + 'q', math.MinInt32, math.MinInt32 + 'q', math.MaxInt32 - 1, math.MaxInt32} {
		use(r)
	}
}
