package vtparse

import (
	"reflect"
	"strconv"
	"strings"
	"sync"

	"narrator/api"
	"narrator/csiparam"
	"narrator/utf8stream"
)

// A rule is what the chapter says of the bytes from low to high in a state.
type rule struct {
	state     int
	low, high byte
	effect    func(p api.Parser, b byte) (api.Parser, []api.Event)
}

// chapterRules is the chapter's section 'Reading a byte' as a table.
func chapterRules() []rule {
	return []rule{
		{0, 0x00, 0x17, afterPending(report)},
		{0, 0x18, 0x18, afterPending(cancelled)},
		{0, 0x19, 0x19, afterPending(report)},
		{0, 0x1A, 0x1A, afterPending(cancelled)},
		{0, 0x1B, 0x1B, afterPending(goesTo(1))},
		{0, 0x1C, 0x1F, afterPending(report)},
		{0, 0x20, 0x7E, decode},
		{0, 0x7F, 0x7F, afterPending(ignore)},
		{0, 0x80, 0xFF, decode},

		{1, 0x00, 0x17, report},
		{1, 0x18, 0x18, cancelled},
		{1, 0x19, 0x19, report},
		{1, 0x1A, 0x1A, cancelled},
		{1, 0x1B, 0x1B, goesTo(1)},
		{1, 0x1C, 0x1F, report},
		{1, 0x20, 0x2F, appendUpTo(3)},
		{1, 0x30, 0x5A, finishEscape},
		{1, 0x5B, 0x5B, introduce(2)},
		{1, 0x5C, 0x5C, finishEscape},
		{1, 0x5D, 0x5D, introduce(3)},
		{1, 0x5E, 0x7E, finishEscape},
		{1, 0x7F, 0x7F, ignore},
		{1, 0x80, 0xFF, readAgainIn(0)},

		{2, 0x00, 0x17, report},
		{2, 0x18, 0x18, cancelled},
		{2, 0x19, 0x19, report},
		{2, 0x1A, 0x1A, cancelled},
		{2, 0x1B, 0x1B, goesTo(1)},
		{2, 0x1C, 0x1F, report},
		{2, 0x20, 0x3F, appendUpTo(257)},
		{2, 0x40, 0x7E, finishSequence},
		{2, 0x7F, 0x7F, ignore},
		{2, 0x80, 0xFF, readAgainIn(0)},

		{3, 0x00, 0x06, ignore},
		{3, 0x07, 0x07, finishCommand},
		{3, 0x08, 0x17, ignore},
		{3, 0x18, 0x18, cancelled},
		{3, 0x19, 0x19, ignore},
		{3, 0x1A, 0x1A, cancelled},
		{3, 0x1B, 0x1B, escapeCommand},
		{3, 0x1C, 0x1F, ignore},
		{3, 0x20, 0xFF, appendUpTo(256)},

		{4, 0x00, 0x5B, readAgainIn(1)},
		{4, 0x5C, 0x5C, finishCommand},
		{4, 0x5D, 0xFF, readAgainIn(1)},
	}
}

// An index is the rule of each byte in each state.
type index [5][256]rule

var (
	ruleIndex index
	ruleOnce  sync.Once
)

// ruleOf returns the index of the rules, which is built at its first use.
func ruleOf() *index {
	ruleOnce.Do(func() {
		for _, r := range chapterRules() {
			for b := int(r.low); b <= int(r.high); b++ {
				ruleIndex[r.state][b] = r
			}
		}
	})
	return &ruleIndex
}

// afterPending drops the pending bytes, which yield U+FFFD, before an effect.
func afterPending(effect func(api.Parser, byte) (api.Parser, []api.Event)) func(api.Parser, byte) (api.Parser, []api.Event) {
	return func(p api.Parser, b byte) (api.Parser, []api.Event) {
		next, l := effect(api.Parser{}, b)
		if p.Pending != "" {
			l = append([]api.Event{{Kind: 1, Rune: 0xFFFD}}, l...)
		}
		return next, l
	}
}

func report(p api.Parser, b byte) (api.Parser, []api.Event) {
	return p, []api.Event{{Kind: 2, Code: b}}
}

func ignore(p api.Parser, b byte) (api.Parser, []api.Event) { return p, nil }

func cancelled(p api.Parser, b byte) (api.Parser, []api.Event) { return api.Parser{}, nil }

func goesTo(state int) func(api.Parser, byte) (api.Parser, []api.Event) {
	return func(api.Parser, byte) (api.Parser, []api.Event) { return api.Parser{State: state}, nil }
}

func decode(p api.Parser, b byte) (api.Parser, []api.Event) {
	characters, pending := utf8stream.Decode(p.Pending, string([]byte{b}))
	var l []api.Event
	for _, r := range characters {
		if r < 0x80 || r > 0x9F {
			l = append(l, api.Event{Kind: 1, Rune: r})
		}
	}
	return api.Parser{Pending: pending}, l
}

func appendUpTo(limit int) func(api.Parser, byte) (api.Parser, []api.Event) {
	return func(p api.Parser, b byte) (api.Parser, []api.Event) {
		if len(p.Buffer) == limit {
			return p, nil
		}
		return api.Parser{State: p.State, Buffer: p.Buffer + string([]byte{b})}, nil
	}
}

func finishEscape(p api.Parser, b byte) (api.Parser, []api.Event) {
	if len(p.Buffer) == 3 {
		return api.Parser{}, nil
	}
	return api.Parser{}, []api.Event{{Kind: 3, Inter: p.Buffer, Code: b}}
}

func introduce(state int) func(api.Parser, byte) (api.Parser, []api.Event) {
	return func(p api.Parser, b byte) (api.Parser, []api.Event) {
		if p.Buffer != "" {
			return finishEscape(p, b)
		}
		return api.Parser{State: state}, nil
	}
}

func finishSequence(p api.Parser, b byte) (api.Parser, []api.Event) {
	private, params, inter, errno := csiparam.Parse(p.Buffer)
	if len(p.Buffer) == 257 || errno != api.OK {
		return api.Parser{}, nil
	}
	return api.Parser{}, []api.Event{{Kind: 4, Private: private, Params: params, Inter: inter, Code: b}}
}

func finishCommand(p api.Parser, b byte) (api.Parser, []api.Event) {
	return api.Parser{}, []api.Event{{Kind: 5, Text: p.Buffer}}
}

func escapeCommand(p api.Parser, b byte) (api.Parser, []api.Event) {
	return api.Parser{State: 4, Buffer: p.Buffer}, nil
}

func readAgainIn(state int) func(api.Parser, byte) (api.Parser, []api.Event) {
	return func(p api.Parser, b byte) (api.Parser, []api.Event) {
		return ruleOf()[state][b].effect(api.Parser{State: state}, b)
	}
}

// chapterFeed returns what Feed returns as the chapter defines it.
func chapterFeed(p api.Parser, chunk string) (api.Parser, []api.Event) {
	if !chapterProper(p) {
		p = api.Parser{}
	}
	table := ruleOf()
	var events []api.Event
	for i := 0; i < len(chunk); i++ {
		next, l := table[p.State][chunk[i]].effect(p, chunk[i])
		p, events = next, append(events, l...)
	}
	return p, events
}

// allPending are the beginnings of the encoded characters, without the empty one.
var allPending = sync.OnceValue(func() map[string]bool {
	beginnings := map[string]bool{}
	for r := rune(0x80); r <= 0x10FFFF; r++ {
		if r >= 0xD800 && r <= 0xDFFF {
			continue
		}
		s := string(r)
		for n := 1; n < len(s); n++ {
			beginnings[s[:n]] = true
		}
	}
	return beginnings
})

// chapterProper reports whether a parser is proper as the chapter defines it.
func chapterProper(p api.Parser) bool {
	if p.State == 0 {
		return p.Buffer == "" && (p.Pending == "" || allPending()[p.Pending])
	}
	if p.State < 0 || p.State > 4 || p.Pending != "" {
		return false
	}
	limit := []int{0, 3, 257, 256, 256}[p.State]
	last := []byte{0, 0x2F, 0x3F, 0xFF, 0xFF}[p.State]
	for _, b := range []byte(p.Buffer) {
		if b < 0x20 || b > last {
			return false
		}
	}
	return len(p.Buffer) <= limit
}

// chapterIdle returns what Idle returns as the chapter defines it.
func chapterIdle(p api.Parser) bool {
	zero := p.State == 0 && p.Pending == "" && p.Buffer == ""
	return zero || !chapterProper(p)
}

// otherFieldsAreZero reports whether an event has no fields that its kind does not mention.
func otherFieldsAreZero(e api.Event) bool {
	switch e.Kind {
	case 1:
		e.Rune = 0
	case 2:
		e.Code = 0
	case 3:
		e.Inter, e.Code = "", 0
	case 4:
		e.Private, e.Params, e.Inter, e.Code = 0, nil, "", 0
	case 5:
		e.Text = ""
	}
	e.Kind = 0
	if len(e.Params) == 0 {
		e.Params = nil
	}
	return reflect.DeepEqual(e, api.Event{})
}

// isParsed reports whether there is a body of which Parse returns the fields of an event.
func isParsed(e api.Event) bool {
	private, params, inter, errno := csiparam.Parse(bodyOf(e))
	return errno == api.OK && private == e.Private && inter == e.Inter &&
		(len(params) == 0 && len(e.Params) == 0 || reflect.DeepEqual(params, e.Params))
}

// bodyOf returns the only body that may be parsed as the fields of an event, but for leading zeros.
func bodyOf(e api.Event) string {
	body := ""
	if e.Private != 0 {
		body = string([]byte{e.Private})
	}
	var parts []string
	for _, n := range e.Params {
		if n == -1 {
			parts = append(parts, "")
		} else {
			parts = append(parts, strconv.Itoa(n))
		}
	}
	return body + strings.Join(parts, ";") + e.Inter
}

// chapterCheck returns what Check returns as the chapter defines it.
func chapterCheck(e api.Event) api.Errno {
	if e.Kind < 1 || e.Kind > 5 {
		return api.ErrKind
	}
	described := false
	switch e.Kind {
	case 1:
		described = e.Rune >= 0x20 && e.Rune <= 0x7E || e.Rune >= 0xA0 && e.Rune <= 0xD7FF || e.Rune >= 0xE000 && e.Rune <= 0x10FFFF
	case 2:
		described = e.Code <= 0x17 || e.Code == 0x19 || e.Code >= 0x1C && e.Code <= 0x1F
	case 3:
		described = len(e.Inter) < 3 && strings.Trim(e.Inter, " !\"#$%&'()*+,-./") == "" && e.Code >= 0x30 && e.Code <= 0x7E
		if e.Inter == "" {
			described = described && !strings.Contains("[]", string(rune(e.Code)))
		}
	case 4:
		described = isParsed(e) && e.Code >= 0x40 && e.Code <= 0x7E
	case 5:
		described = len(e.Text) < 257
		for _, b := range []byte(e.Text) {
			described = described && b >= 0x20
		}
	}
	if described && otherFieldsAreZero(e) {
		return api.OK
	}
	return api.ErrArgument
}

// chapterEncode returns what Encode returns as the chapter defines it.
func chapterEncode(e api.Event) (string, api.Errno) {
	if errno := chapterCheck(e); errno != api.OK {
		return "", errno
	}
	code := string([]byte{e.Code})
	return []string{
		1: string(e.Rune),
		2: code,
		3: "\x1B" + e.Inter + code,
		4: "\x1B\x5B" + bodyOf(e) + code,
		5: "\x1B\x5D" + e.Text + "\x07",
	}[e.Kind], api.OK
}
