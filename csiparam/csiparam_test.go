package csiparam

import (
	"math"
	"math/big"
	"math/rand"
	"regexp"
	"slices"
	"strings"
	"testing"

	"narrator/api"
)

// bodyForm is the chapter's definition of a body: private marker, parameter bytes, intermediate bytes.
var bodyForm = regexp.MustCompile(`\A([<=>?]?)([0-9;]*)([\x20-\x2F]*)\z`)

// zerosForm is a number with its leading zeros; the rest of it is the number without them.
var zerosForm = regexp.MustCompile(`0*(0|[1-9][0-9]*)`)

// withoutZeros returns a body without the leading zeros of its numbers.
func withoutZeros(body string) string {
	return zerosForm.ReplaceAllString(body, "$1")
}

// A parsed is what Parse returns.
type parsed struct {
	private byte
	params  []int
	inter   string
	e       api.Errno
}

// equal compares all of two results; an empty list is a nil list.
func (p parsed) equal(q parsed) bool {
	return p.private == q.private && slices.Equal(p.params, q.params) && p.inter == q.inter && p.e == q.e
}

// parse returns what Parse returns.
func parse(s string) parsed {
	private, params, inter, e := Parse(s)
	return parsed{private, params, inter, e}
}

// chapterParse returns what Parse returns as the chapter defines it.
func chapterParse(s string) parsed {
	m := bodyForm.FindStringSubmatch(s)
	if m == nil {
		return parsed{e: api.ErrSyntax}
	}
	p := parsed{inter: m[3]}
	if m[1] != "" {
		p.private = m[1][0]
	}
	tooMuch := len(p.inter) >= 3
	if m[2] != "" {
		for part := range strings.SplitSeq(m[2], ";") {
			n := big.NewInt(-1)
			if part != "" {
				n.SetString(part, 10)
			}
			tooMuch = tooMuch || n.Cmp(big.NewInt(9999)) > 0
			p.params = append(p.params, int(n.Int64()))
		}
	}
	if tooMuch || len(p.params) >= 17 {
		return parsed{e: api.ErrLimit}
	}
	return p
}

// chapterFormat returns what Format returns as the chapter defines it.
func chapterFormat(private byte, params []int, inter string) (string, api.Errno) {
	invalid := private != 0 && !strings.Contains("<=>?", string(rune(private)))
	for _, b := range []byte(inter) {
		invalid = invalid || b>>4 != 2
	}
	tooMuch := len(params) >= 17 || len(inter) >= 3
	var parts []string
	for _, n := range params {
		invalid = invalid || n <= -2
		tooMuch = tooMuch || n >= 10000
		parts = append(parts, big.NewInt(int64(n)).String())
		if n == -1 {
			parts[len(parts)-1] = ""
		}
	}
	if invalid || slices.Equal(params, []int{-1}) {
		return "", api.ErrArgument
	}
	if tooMuch {
		return "", api.ErrLimit
	}
	front := ""
	if private != 0 {
		front = string(rune(private))
	}
	return front + strings.Join(parts, ";") + inter, api.OK
}

// checkParse compares Parse with the chapter, and tests the round trip from a body that has no error.
func checkParse(t *testing.T, s string) {
	t.Helper()
	got := parse(s)
	if want := chapterParse(s); !got.equal(want) {
		t.Errorf("P5.1: Parse(%q) = %v, want %v", s, got, want)
	}
	if got.e != api.OK {
		return
	}
	body, e := Format(got.private, got.params, got.inter)
	if e != api.OK || body != withoutZeros(s) {
		t.Errorf("P5.2: Format of Parse(%q) = %q, %d, want %q", s, body, e, withoutZeros(s))
	}
	if again := parse(body); !again.equal(got) {
		t.Errorf("P5.2: Parse(%q) = %v, and Parse(%q) = %v", s, got, body, again)
	}
}

// checkFormat compares Format with the chapter, and tests the round trip from arguments that have no error.
func checkFormat(t *testing.T, private byte, params []int, inter string) {
	t.Helper()
	before := slices.Clone(params)
	got, e := Format(private, params, inter)
	if want, wantError := chapterFormat(private, params, inter); got != want || e != wantError {
		t.Errorf("P5.1: Format(%q, %v, %q) = %q, %d, want %q, %d", private, params, inter, got, e, want, wantError)
	}
	if !slices.Equal(before, params) {
		t.Errorf("Format(%q, %v, %q) changed the parameters to %v", private, before, inter, params)
	}
	if e != api.OK {
		return
	}
	if back := parse(got); !back.equal(parsed{private, params, inter, api.OK}) {
		t.Errorf("P5.2: Parse of Format(%q, %v, %q) = %v", private, params, inter, back)
	}
}

// eachString calls f for all strings of the given length over the given bytes.
func eachString(of string, length int, f func(string)) {
	if length == 0 {
		f("")
		return
	}
	eachString(of, length-1, func(s string) {
		for i := range len(of) {
			f(s + of[i:i+1])
		}
	})
}

// eachList calls f for all lists of the given length over the given numbers.
func eachList(of []int, length int, f func([]int)) {
	if length == 0 {
		f(nil)
		return
	}
	eachList(of, length-1, func(l []int) {
		for _, n := range of {
			f(append(slices.Clone(l), n))
		}
	})
}

// allBytes are the 256 bytes.
func allBytes() string {
	var b []byte
	for n := range 256 {
		b = append(b, byte(n))
	}
	return string(b)
}

// sampleBytes are bytes of every kind, with those next to the bounds of the kinds.
const sampleBytes = "<?09;1 /:@\x1F\x00\x80\xFFa"

// hugeNumbers are digits of numbers beyond the integers of every size, of which most are small if the size cuts them.
var hugeNumbers = []string{
	"10000", "10001", "65535", "65536", "65543", "99999", "100000", "1000000",
	"2147483647", "2147483648", "4294967295", "4294967296", "4294967303",
	"9223372036854775807", "9223372036854775808", "18446744073709551615", "18446744073709551616", "18446744073709551623",
	"340282366920938463463374607431768211456", "1" + strings.Repeat("0", 1000), strings.Repeat("9", 100000),
	strings.Repeat("0", 1000) + "10000", "10000" + strings.Repeat("0", 64),
}

// P5.1: the chapter's examples.
func TestExamples(t *testing.T) {
	if p := parse("?25;;7"); !p.equal(parsed{'?', []int{25, -1, 7}, "", api.OK}) {
		t.Errorf("Parse = %v", p)
	}
	if p := parse(";"); !p.equal(parsed{0, []int{-1, -1}, "", api.OK}) {
		t.Errorf("Parse = %v", p)
	}
}

// P5.1: bodies whose parts are written out.
func TestParseCases(t *testing.T) {
	for _, c := range []struct {
		name, s string
		want    parsed
	}{
		{"nothing", "", parsed{}},
		{"only a private marker", ">", parsed{private: '>'}},
		{"only intermediate bytes", "!/", parsed{inter: "!/"}},
		{"a private marker and intermediate bytes", "= ", parsed{private: '=', inter: " "}},
		{"the first private marker", "<1", parsed{private: '<', params: []int{1}}},
		{"0", "0", parsed{params: []int{0}}},
		{"only zeros", "0000", parsed{params: []int{0}}},
		{"leading zeros", "0012;0", parsed{params: []int{12, 0}}},
		{"many leading zeros", strings.Repeat("0", 100000) + "9999", parsed{params: []int{9999}}},
		{"an empty part at the front", ";3", parsed{params: []int{-1, 3}}},
		{"an empty part in the middle", "1;;3", parsed{params: []int{1, -1, 3}}},
		{"an empty part at the end", "1;", parsed{params: []int{1, -1}}},
		{"only empty parts", ";;", parsed{params: []int{-1, -1, -1}}},
		{"an absent parameter is not 0", "0;;0", parsed{params: []int{0, -1, 0}}},
		{"everything", "?1;20;300 $", parsed{private: '?', params: []int{1, 20, 300}, inter: " $"}},
		{"two intermediate bytes", "1  ", parsed{params: []int{1}, inter: "  "}},
		{"three intermediate bytes", "1   ", parsed{e: api.ErrLimit}},
		{"the greatest parameter", "9999;9999", parsed{params: []int{9999, 9999}}},
		{"a greater one at the front", "10000;1", parsed{e: api.ErrLimit}},
		{"a greater one at the end", "1;10000", parsed{e: api.ErrLimit}},
		{"16 parameters", strings.Repeat(";", 15), parsed{params: slices.Repeat([]int{-1}, 16)}},
		{"17 parameters", strings.Repeat(";", 16), parsed{e: api.ErrLimit}},
		{"two private markers", "?>", parsed{e: api.ErrSyntax}},
		{"a private marker after a parameter", "1?", parsed{e: api.ErrSyntax}},
		{"a private marker between parameters", "1;?2", parsed{e: api.ErrSyntax}},
		{"a private marker after an intermediate byte", " ?", parsed{e: api.ErrSyntax}},
		{"a digit after an intermediate byte", "1 2", parsed{e: api.ErrSyntax}},
		{"a semicolon after an intermediate byte", " ;", parsed{e: api.ErrSyntax}},
		{"a colon", "38:5", parsed{e: api.ErrSyntax}},
		{"a final byte", "1m", parsed{e: api.ErrSyntax}},
		{"a sign", "-1", parsed{e: api.ErrSyntax}},
		{"a minus is an intermediate byte", "-", parsed{inter: "-"}},
		{"a line feed at the end", "1\n", parsed{e: api.ErrSyntax}},
		{"a zero byte", "\x00", parsed{e: api.ErrSyntax}},
		{"a zero byte as a private marker", "\x001", parsed{e: api.ErrSyntax}},
		{"a digit of another script", "\u0661", parsed{e: api.ErrSyntax}},
		{"a wide digit", "1\uFF11", parsed{e: api.ErrSyntax}},
		{"no syntax and too great", "10000x", parsed{e: api.ErrSyntax}},
		{"no syntax and too many parameters", strings.Repeat("1;", 20) + "?", parsed{e: api.ErrSyntax}},
		{"no syntax and too many intermediate bytes", "!!!!1", parsed{e: api.ErrSyntax}},
		{"all limits", "?" + strings.Repeat("10000;", 20) + "!!!", parsed{e: api.ErrLimit}},
	} {
		if got := parse(c.s); !got.equal(c.want) {
			t.Errorf("%s: Parse(%.50q) = %v, want %v", c.name, c.s, got, c.want)
		}
		checkParse(t, c.s)
	}
}

// P5.1 and P5.2: all strings of up to two bytes, each byte at each place of a body, and all short strings over samples.
func TestParseShortStrings(t *testing.T) {
	for length := range 3 {
		eachString(allBytes(), length, func(s string) { checkParse(t, s) })
	}
	body := "?12;;3 !"
	for i := range len(body) + 1 {
		eachString(allBytes(), 1, func(b string) {
			checkParse(t, body[:i]+b+body[i:])
			checkParse(t, body[:i]+b+body[min(i+1, len(body)):])
		})
	}
	for length := range 6 {
		eachString(sampleBytes, length, func(s string) { checkParse(t, s) })
	}
}

// P5.1 and P5.2: all strings of parameter bytes of up to seven bytes over few digits.
func TestParseParameterBytes(t *testing.T) {
	for length := range 8 {
		eachString("0;19", length, func(s string) { checkParse(t, s) })
	}
}

// P5.1: every number up to beyond the limit, with and without leading zeros, and huge ones.
func TestParseNumbers(t *testing.T) {
	for n := range 12000 {
		digits := big.NewInt(int64(n)).String()
		for _, s := range []string{digits, "0" + digits, "00000000000000000000" + digits, "1;" + digits + ";", digits + " ", "?" + digits} {
			checkParse(t, s)
		}
	}
	for _, digits := range hugeNumbers {
		for _, s := range []string{digits, "0" + digits, "5;" + digits, digits + ";5", "?" + digits + "!"} {
			if got := parse(s); !got.equal(parsed{e: api.ErrLimit}) {
				t.Errorf("Parse(%.40q) = %v", s, got)
			}
		}
		checkParse(t, digits+";x")
	}
}

// P5.1: every count of parameters and of intermediate bytes up to beyond the limits.
func TestParseCounts(t *testing.T) {
	for count := 1; count <= 40; count++ {
		for _, part := range []string{"", "0", "7", "0009999", "10000"} {
			params := strings.Join(slices.Repeat([]string{part}, count), ";")
			for inters := range 5 {
				checkParse(t, params+strings.Repeat("#", inters))
				checkParse(t, ">"+params+strings.Repeat("#", inters))
			}
		}
	}
	for inters := range 300 {
		checkParse(t, strings.Repeat(" ", inters))
		checkParse(t, strings.Repeat(" ", inters)+"?")
	}
	checkParse(t, strings.Repeat(";", 1<<16))
	checkParse(t, strings.Repeat("1;", 1<<16+3))
}

// randomBody returns a string that is mostly a body, and mostly within the limits.
func randomBody(random *rand.Rand) string {
	s := ""
	if random.Intn(2) == 0 {
		s = "<=>?"[random.Intn(4):][:1]
	}
	for range random.Intn(60) {
		s += "000123456789;;;;;;"[random.Intn(18):][:1]
	}
	for range random.Intn(4) {
		s += string(rune(0x20 + random.Intn(16)))
	}
	if random.Intn(8) == 0 {
		i := random.Intn(len(s) + 1)
		s = s[:i] + string([]byte{byte(random.Intn(256))}) + s[i:]
	}
	return s
}

// P5.1 and P5.2: random long strings.
func TestParseRandomStrings(t *testing.T) {
	random := rand.New(rand.NewSource(5))
	for range 200000 {
		checkParse(t, randomBody(random))
	}
}

// Parse returns new memory at each call.
func TestParseIsNew(t *testing.T) {
	_, first, _, _ := Parse("1;2;3")
	clear(first)
	if p := parse("1;2;3"); !p.equal(parsed{params: []int{1, 2, 3}}) {
		t.Errorf("Parse = %v after its last result was changed", p)
	}
}

// P5.1: bodies of Format that are written out.
func TestFormatCases(t *testing.T) {
	for _, c := range []struct {
		name    string
		private byte
		params  []int
		inter   string
		want    string
		e       api.Errno
	}{
		{"nothing", 0, nil, "", "", api.OK},
		{"an empty list", 0, []int{}, "", "", api.OK},
		{"only a private marker", '<', nil, "", "<", api.OK},
		{"only intermediate bytes", 0, nil, "/ ", "/ ", api.OK},
		{"everything", '?', []int{1, -1, 0, 9999}, " !", "?1;;0;9999 !", api.OK},
		{"0", 0, []int{0}, "", "0", api.OK},
		{"two absent parameters", 0, []int{-1, -1}, "", ";", api.OK},
		{"absent parameters on both sides", '=', []int{-1, 5, -1}, "", "=;5;", api.OK},
		{"the single absent parameter", 0, []int{-1}, "", "", api.ErrArgument},
		{"the single absent parameter with others", '>', []int{-1}, "!", "", api.ErrArgument},
		{"a single parameter less than -1", 0, []int{-2}, "", "", api.ErrArgument},
		{"the least number", 0, []int{1, math.MinInt}, "", "", api.ErrArgument},
		{"no private marker", ';', nil, "", "", api.ErrArgument},
		{"a digit as an intermediate byte", 0, nil, "0", "", api.ErrArgument},
		{"the second intermediate byte", 0, nil, " \x1F", "", api.ErrArgument},
		{"the greatest parameter", 0, []int{9999}, "", "9999", api.OK},
		{"a greater one", 0, []int{10000}, "", "", api.ErrLimit},
		{"the greatest number", 0, []int{1, math.MaxInt}, "", "", api.ErrLimit},
		{"16 parameters", 0, slices.Repeat([]int{-1}, 16), "", ";;;;;;;;;;;;;;;", api.OK},
		{"17 parameters", 0, slices.Repeat([]int{-1}, 17), "", "", api.ErrLimit},
		{"two intermediate bytes", 0, nil, "  ", "  ", api.OK},
		{"three intermediate bytes", 0, nil, "   ", "", api.ErrLimit},
		{"no private marker and too great", 1, []int{10000}, "", "", api.ErrArgument},
		{"no intermediate byte among too many", 0, nil, "   a", "", api.ErrArgument},
		{"too small after too great", 0, []int{10000, -2}, "", "", api.ErrArgument},
		{"too small beyond the 16th", 0, append(slices.Repeat([]int{1}, 17), -2), "", "", api.ErrArgument},
		{"the single absent parameter and too many intermediate bytes", 0, []int{-1}, "!!!", "", api.ErrArgument},
	} {
		if got, e := Format(c.private, c.params, c.inter); got != c.want || e != c.e {
			t.Errorf("%s: Format(%q, %v, %q) = %q, %d, want %q, %d", c.name, c.private, c.params, c.inter, got, e, c.want, c.e)
		}
		checkFormat(t, c.private, c.params, c.inter)
	}
}

// P5.1 and P5.2: every byte as a private marker and as an intermediate byte, with parameters of each error.
func TestFormatBytes(t *testing.T) {
	lists := [][]int{nil, {0}, {-1}, {-1, 5}, {-2}, {10000}, {3, 10000, -2}, slices.Repeat([]int{8}, 16), slices.Repeat([]int{8}, 17)}
	for private := range 256 {
		for _, params := range lists {
			for _, inter := range []string{"", " ", "/ ", "   ", "0", "\x1F ", " \x80", "   a", "\u00A0"} {
				checkFormat(t, byte(private), params, inter)
			}
		}
	}
	for length := range 3 {
		eachString(allBytes(), length, func(inter string) {
			checkFormat(t, '?', []int{1, 2}, inter)
		})
	}
	eachString(allBytes(), 1, func(inter string) {
		for _, params := range lists {
			checkFormat(t, 0, params, inter)
			checkFormat(t, 'x', params, inter)
			checkFormat(t, 0, params, "!"+inter+"!")
			checkFormat(t, 0, params, "!!!"+inter)
		}
	})
}

// P5.1 and P5.2: all short lists over numbers at and beyond the bounds.
func TestFormatShortLists(t *testing.T) {
	numbers := []int{math.MinInt, -10000, -2, -1, 0, 1, 9, 10, 999, 9999, 10000, math.MaxInt}
	for length := range 5 {
		eachList(numbers, length, func(l []int) {
			checkFormat(t, 0, l, "")
			checkFormat(t, '=', l, "+")
		})
	}
}

// P5.1 and P5.2: every parameter, and every count of parameters up to beyond the limit.
func TestFormatNumbersAndCounts(t *testing.T) {
	for n := -20; n <= 12000; n++ {
		checkFormat(t, 0, []int{n}, "")
		checkFormat(t, '<', []int{-1, n, -1}, "$")
	}
	for count := range 40 {
		for _, n := range []int{-2, -1, 0, 5, 9999, 10000} {
			checkFormat(t, 0, slices.Repeat([]int{n}, count), "")
			checkFormat(t, '?', append([]int{7}, slices.Repeat([]int{n}, count)...), " ")
		}
	}
}

// P5.1 and P5.2: random lists of many parameters.
func TestFormatRandomLists(t *testing.T) {
	random := rand.New(rand.NewSource(55))
	for range 100000 {
		l := make([]int, random.Intn(19))
		for i := range l {
			l[i] = random.Intn(10100) - 2
			if random.Intn(3) == 0 {
				l[i] = -1
			}
		}
		checkFormat(t, "\x00<=>?"[random.Intn(5)], l, []string{"", "-", " &", "'()"}[random.Intn(4)])
	}
}

// P5.3: parameter bytes that are joined by a semicolon have the parameters of both, if there are any bytes on both sides.
func TestJoin(t *testing.T) {
	var lists []string
	for length := 1; length <= 4; length++ {
		eachString("0;57", length, func(s string) { lists = append(lists, s) })
	}
	lists = append(lists, "9999", "00009999;1", "1;2;3;4;5;6;7;8")
	for _, first := range lists {
		for _, second := range lists {
			want := append(parse(first).params, parse(second).params...)
			if got := parse(first + ";" + second); !got.equal(parsed{params: want}) {
				t.Errorf("Parse(%q and %q) = %v, want %v", first, second, got, want)
			}
		}
	}
}

// P5.3: the parameters are the same with each private marker and with any intermediate bytes.
func TestParametersAlone(t *testing.T) {
	var inters []string
	for length := range 3 {
		eachString(" !\"#$%&'()*+,-./", length, func(s string) { inters = append(inters, s) })
	}
	for length := range 5 {
		eachString("0;36", length, func(bytes string) {
			want := parse(bytes).params
			for _, private := range []string{"", "<", "=", ">", "?"} {
				for _, inter := range inters {
					if got := parse(private + bytes + inter); got.e != api.OK || got.inter != inter || !slices.Equal(got.params, want) {
						t.Fatalf("Parse(%q) = %v, want the parameters %v", private+bytes+inter, got, want)
					}
				}
			}
		})
	}
}

// P5.1: At for each index of lists, and for those below and beyond.
func TestAt(t *testing.T) {
	numbers := []int{math.MinInt, -2, -1, 0, 1, 2, 9999, 10000, math.MaxInt}
	values := []int{math.MinInt, -1, 0, 1, 7, math.MaxInt}
	beyond := []int{math.MinInt, -17, -2, -1, math.MaxInt32, math.MaxInt - 1, math.MaxInt}
	for length := range 4 {
		eachList(numbers, length, func(l []int) {
			for _, value := range values {
				for _, i := range append(beyond, length, length+1, length+2) {
					if got := At(l, i, value); got != value {
						t.Errorf("At(%v, %d, %d) = %d, want the default value", l, i, value, got)
					}
				}
				for i, n := range l {
					want := n
					if n <= 0 {
						want = value
					}
					if got := At(l, i, value); got != want {
						t.Errorf("At(%v, %d, %d) = %d, want %d", l, i, value, got, want)
					}
				}
			}
		})
	}
}

// P5.4: absent parameters and zeros of a body have the default value, and so has what is beyond its end.
func TestDefaultValue(t *testing.T) {
	for _, s := range []string{"", ";", "0", "00;0", "0;;0", "?;0000;", ";;; "} {
		p := parse(s)
		for i := -1; i <= len(p.params); i++ {
			for _, value := range []int{-3, 0, 1, 24, 10000} {
				if got := At(p.params, i, value); got != value {
					t.Errorf("At(%v, %d, %d) = %d, want %d, for the body %q", p.params, i, value, got, value, s)
				}
			}
		}
	}
	p := parse(";5;0;007;")
	for i, want := range []int{1, 5, 1, 7, 1, 1} {
		if got := At(p.params, i, 1); got != want {
			t.Errorf("At(%v, %d, 1) = %d, want %d", p.params, i, got, want)
		}
	}
}
