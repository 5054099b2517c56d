package modes

import (
	"slices"
	"testing"

	"narrator/api"
)

// P11.2: setting two lists one after the other is setting their concatenation.
func TestSetListsInTurn(t *testing.T) {
	eachList(func(params []int) {
		for _, private := range []byte{0, '?', '>'} {
			for _, on := range []bool{false, true} {
				for cut := range len(params) + 1 {
					for _, m := range samples() {
						inTurn := Set(Set(m, private, params[:cut], on), private, params[cut:], on)
						if got := Set(m, private, params, on); got != inTurn {
							t.Fatalf("Set(%v, %d, %v, %t) = %v, and %v in two parts", m, private, params, on, got, inTurn)
						}
					}
				}
			}
		}
	})
}

// P11.2: only the last setting of a mode counts, whatever was set before.
func TestLastSettingCounts(t *testing.T) {
	eachFlags(New(), func(m api.Modes) {
		for _, row := range chapterTable() {
			for _, first := range row.numbers {
				for _, last := range row.numbers {
					for _, on := range []bool{false, true} {
						before := Set(m, row.private, []int{first}, !on)
						got, want := Set(before, row.private, []int{last}, on), Set(m, row.private, []int{last}, on)
						if got != want || flagsOf(got)[row.flag] != on {
							t.Fatalf("from %v, setting %d to %t after %d leads to %v", m, last, on, first, got)
						}
					}
				}
			}
		}
	})
}

// P11.2: setting modes in another order, or the same ones again, changes nothing.
func TestSetAgain(t *testing.T) {
	eachList(func(params []int) {
		backward := slices.Clone(params)
		slices.Reverse(backward)
		for _, private := range []byte{0, '?', '>'} {
			for _, on := range []bool{false, true} {
				for _, m := range samples() {
					once := Set(m, private, params, on)
					if Set(once, private, params, on) != once || Set(once, private, backward, on) != once || Set(m, private, backward, on) != once {
						t.Fatalf("setting %v for the marker %d to %t again changes %v", params, private, on, once)
					}
				}
			}
		}
	})
}

// P11.3: Set does not change the character sets and the Shift, and no modes but those that are denoted.
func TestSetChangesOnlyModes(t *testing.T) {
	numbers := numbersAround()
	eachCharacterSets(func(m api.Modes) {
		for _, private := range []byte{0, '?', '>'} {
			for _, on := range []bool{false, true} {
				if got := Set(m, private, numbers, on); got.Sets != m.Sets || got.Shift != m.Shift {
					t.Fatalf("Set(%v, %d, %v, %t) = %v", m, private, numbers, on, got)
				}
			}
		}
	})
	eachList(func(params []int) {
		for _, private := range []byte{0, '?', '>'} {
			for _, on := range []bool{false, true} {
				for _, m := range samples() {
					for flag, was := range flagsOf(m) {
						is := flagsOf(Set(m, private, params, on))[flag]
						denotes := func(number int) bool { return chapterFlag(private, number) == flag }
						if !slices.ContainsFunc(params, denotes) && is != was {
							t.Fatalf("Set(%v, %d, %v, %t) changes flag %d", m, private, params, on, flag)
						}
					}
				}
			}
		}
	})
}

// P11.3: Designate changes nothing but the set that is designated, and Shift nothing but the Shift.
func TestDesignateAndShiftChangeOnlySets(t *testing.T) {
	check := func(m api.Modes) {
		for _, code := range []byte{'B', '0', 'A', 0} {
			for _, inter := range []string{"(", ")", "", "*", "(("} {
				got := Designate(m, inter, code)
				if flagsOf(got) != flagsOf(m) || got.Shift != m.Shift || inter != "(" && got.Sets[0] != m.Sets[0] || inter != ")" && got.Sets[1] != m.Sets[1] {
					t.Fatalf("Designate(%v, %q, %q) = %v", m, inter, code, got)
				}
			}
		}
		for _, i := range append([]int{-1, 0, 1, 2}, hugeNumbers...) {
			if got := Shift(m, i); flagsOf(got) != flagsOf(m) || got.Sets != m.Sets {
				t.Fatalf("Shift(%v, %d) = %v", m, i, got)
			}
		}
	}
	eachFlags(api.Modes{Sets: [2]byte{'0', 'x'}, Shift: 1}, check)
	eachCharacterSets(check)
}

// P11.4: different characters from 5F to 7E are replaced by different characters, none of which is among them.
func TestGraphicsDiffer(t *testing.T) {
	m := Designate(New(), "(", '0')
	replaced := map[rune]rune{}
	for r := rune(0x5F); r <= 0x7E; r++ {
		got := Map(m, r)
		if other, exists := replaced[got]; exists || got == r {
			t.Errorf("%U and %U are both replaced by %U", other, r, got)
		}
		replaced[got] = r
	}
	if len(replaced) != 32 {
		t.Errorf("there are %d replacements", len(replaced))
	}
}

// P11.4: all other characters remain as they are, and all characters with the active set B.
func TestOtherCharactersRemain(t *testing.T) {
	second := Shift(Designate(New(), ")", '0'), 1)
	for _, m := range []api.Modes{Designate(New(), "(", '0'), second} {
		eachCharacter(func(r rune) {
			if (r < 0x5F || r > 0x7E) && Map(m, r) != r {
				t.Fatalf("Map(%v, %U) = %U", m, r, Map(m, r))
			}
		})
	}
	for _, m := range []api.Modes{New(), Shift(New(), 1), Shift(second, 0), Shift(Designate(New(), "(", '0'), 1)} {
		eachCharacter(func(r rune) {
			if Map(m, r) != r {
				t.Fatalf("Map(%v, %U) = %U", m, r, Map(m, r))
			}
		})
	}
}
