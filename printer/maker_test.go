package printer_test

import (
	"math/rand"
	"slices"
	"strconv"
	"strings"
)

// maker writes texts of the chapter's section 'The text', choice by choice, and with each a source of the same tokens, laid otherwise. It knows no literal, selection or definition: so it is the chapter written a second time.
type maker struct {
	choose func(n int) int // a number below n
	r      *rand.Rand      // for the source's layout
	text   strings.Builder
	src    strings.Builder
	last   string // the source's last token
	open   int
	most   int // the most brackets that were open at one time
	level  int
	room   int // how many elements may still be made
	made   map[string]int
}

func newMaker(seed int64, room int) *maker {
	r := rand.New(rand.NewSource(seed))
	return &maker{choose: r.Intn, r: r, room: room, made: map[string]int{}}
}

// tight is whether a token is one beside which nothing need stand.
func tight(token string) bool {
	return token == "..." || len(token) == 1 && strings.Contains("!$&():=@[]{|}", token)
}

// gap is what may stand between the source's last token and the next.
func (m *maker) gap(token string) string {
	gaps := []string{" ", "  ", ",", "\n", "\r\n", "\t", "\ufeff", "# {é\n", "\r", " , "}
	if tight(token) || tight(m.last) {
		gaps = append(gaps, "", "", "", "", "", "")
	}
	return gaps[m.r.Intn(len(gaps))]
}

// token writes a token that the source spells in some way.
func (m *maker) token(text, spelt string) {
	m.text.WriteString(text)
	m.add(spelt)
}

// add writes a token to the source alone.
func (m *maker) add(token string) {
	m.src.WriteString(m.gap(token))
	m.src.WriteString(token)
	m.last = token
	switch token {
	case "(", "[", "{":
		m.open++
		m.most = max(m.most, m.open)
	case ")", "]", "}":
		m.open--
	}
}

// put writes tokens and blanks; a blank goes to the text alone.
func (m *maker) put(pieces ...string) {
	for _, piece := range pieces {
		if strings.Trim(piece, " ,\n") == "" {
			m.text.WriteString(piece)
		} else {
			m.token(piece, piece)
		}
	}
}

func (m *maker) indent() {
	m.put(strings.Repeat("  ", m.level))
}

// maybe is a choice of yes or no, no if there is no room.
func (m *maker) maybe() bool {
	return m.room > 0 && m.choose(2) == 1
}

// many writes elements as long as they are chosen; at least so many.
func (m *maker) many(least int, between string, element func()) {
	for n := 0; n < least || m.maybe(); n++ {
		m.room--
		if n > 0 {
			m.put(between)
		}
		element()
	}
}

// parted writes one name or more with a mark between each two, and in the source often one ahead of the first.
func (m *maker) parted(mark string, name func()) {
	if m.r.Intn(2) == 0 {
		m.add(mark)
	}
	first := true
	m.many(1, "", func() {
		if !first {
			m.put(" ", mark, " ")
		}
		first = false
		name()
	})
}

// name writes a name that is none of but.
func (m *maker) name(but ...string) {
	names := []string{"a", "on", "type", "true", "null", "implements", "repeatable", "query", "fragment", "extend", "_9", "FIELD"}
	names = slices.DeleteFunc(names, func(name string) bool { return slices.Contains(but, name) })
	m.put(names[m.r.Intn(len(names))])
}

func (m *maker) anyName() { m.name() }

// one writes one of the tokens. Which of them, as which name, hangs on nothing else: it is no choice of choose.
func (m *maker) one(tokens ...string) {
	m.put(tokens[m.r.Intn(len(tokens))])
}

// spelling is a string's text, and sources of the same value.
type spelling struct {
	text    string
	sources []string
}

func quotedSpellings() []spelling {
	return []spelling{
		{`""`, []string{`""`}},
		{`"a"`, []string{`"a"`, `"\u0061"`}},
		{`"\"\\/\b\f\n\r\t"`, []string{`"\"\\\/\b\f\n\r\t"`, `"\u0022\u005c/\u0008\u000C\u000a\u000D\u0009"`}},
		{`"\u0000\u007Fé"`, []string{`"\u0000\u007fé"`, "\"\\u0000\x7f\\u00E9\""}},
		{`"\uD83D\uDE00"`, []string{`"\ud83d\ude00"`, `"\uD83D\uDE00"`}},
		{`" # {("`, []string{`" # {("`, `"\u0020# {\u0028"`}},
	}
}

func blockSpellings() []spelling {
	return []spelling{
		{`""""""`, []string{`""""""`, `"""  """`, "\"\"\"\n\n\t\"\"\""}},
		{"\"\"\"\na\n\"\"\"", []string{`"""a"""`, "\"\"\"\n   a\n\"\"\"", "\"\"\"\r\ta\r\"\"\""}},
		{"\"\"\"  a\n\"\"\"", []string{`"""  a"""`, "\"\"\"  a\r\n \r\n\"\"\""}},
		{"\"\"\"\n # {\n\n  b\nc\n\"\"\"", []string{"\"\"\" # {\n\n      b\n    c\"\"\"", "\"\"\"\r\n   # {\r\n\r\n    b\r\n  c\"\"\""}},
		{"\"\"\"\n\\\"\"\"\\n\"\"é\n\"\"\"", []string{`"""\"""\n""é"""`, "\"\"\"\n\t\\\"\"\"\\n\"\"é\n\"\"\""}},
	}
}

func (m *maker) spelt(spellings []spelling) {
	s := spellings[m.r.Intn(len(spellings))]
	m.token(s.text, s.sources[m.r.Intn(len(s.sources))])
}

// note writes a description, or none.
func (m *maker) note(behind string) {
	if !m.maybe() {
		return
	}
	kind := m.choose(2)
	m.count("note " + strconv.Itoa(kind))
	m.spelt([][]spelling{quotedSpellings(), blockSpellings()}[kind])
	m.put(behind)
	if behind == "\n" {
		m.indent()
	}
}

func (m *maker) count(what string) { m.made[what]++ }

func (m *maker) lit(constant bool) {
	kind := 0
	if m.room > 0 {
		kind = m.choose(10)
	}
	if kind == 9 && constant {
		kind = 8
	}
	m.count("literal " + strconv.Itoa(kind))
	switch kind {
	case 0:
		m.one("0", "-0", "-12", "9999999999999999999999")
	case 1:
		m.one("1.50E3", "-0.0", "1e+05")
	case 2:
		m.one("true", "false")
	case 3:
		m.put("null")
	case 4:
		m.one("E", "on", "TRUE", "query", "type")
	case 5:
		m.spelt(quotedSpellings())
	case 6:
		m.spelt(blockSpellings())
	case 7:
		m.put("[")
		m.many(0, ", ", func() { m.lit(constant) })
		m.put("]")
	case 8:
		m.put("{")
		m.many(0, ", ", func() { m.arg(constant) })
		m.put("}")
	case 9:
		m.put("$")
		m.name()
	}
}

func (m *maker) arg(constant bool) {
	m.name()
	m.put(":", " ")
	m.lit(constant)
}

func (m *maker) args(constant bool) {
	if m.maybe() {
		m.put("(")
		m.many(1, ", ", func() { m.arg(constant) })
		m.put(")")
	}
}

func (m *maker) dir(constant bool) {
	m.count("directive")
	m.put(" ", "@")
	m.name()
	m.args(constant)
}

func (m *maker) dirs(constant bool) {
	m.many(0, "", func() { m.dir(constant) })
}

func (m *maker) ref() {
	if m.maybe() {
		m.room--
		m.put("[")
		m.ref()
		m.put("]")
	} else {
		m.name()
	}
	if m.maybe() {
		m.put("!")
	}
}

func (m *maker) fallback() {
	if m.maybe() {
		m.put(" ", "=", " ")
		m.lit(true)
	}
}

// set writes braces of one part or more, without a blank ahead.
func (m *maker) set(part func()) {
	m.put("{", "\n")
	m.level++
	m.many(1, "", func() {
		m.indent()
		part()
		m.put("\n")
	})
	m.level--
	m.indent()
	m.put("}")
}

func (m *maker) maybeSet(part func()) bool {
	if !m.maybe() {
		return false
	}
	m.put(" ")
	m.set(part)
	return true
}

// whole writes definitions with an empty line between each two.
func (m *maker) whole(def func()) {
	m.many(1, "\n", func() {
		def()
		m.put("\n")
	})
}
