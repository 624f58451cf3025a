package strval_test

import (
	"math/rand"
	"strings"
	"testing"

	"pergola/api"
	"pergola/strval"
)

// quotedExamples are the chapter's, and some beside.
func quotedExamples() map[string]string {
	return map[string]string{
		"":                   "",
		`a\nb`:               "a\nb",
		`\u0041\/`:           "A/",
		`\uD83D\uDE00`:       "\U0001F600",
		`\ud83d\ude00`:       "\U0001F600",
		`x\uD83D\uDE00y`:     "x\U0001F600y",
		`\"\\\/\b\f\n\r\t`:   "\"\\/\b\f\n\r\t",
		`\\n`:                `\n`,
		`\\\"`:               `\"`,
		`\\u0041`:            `\u0041`,
		`\u0000`:             "\x00",
		`\u00001`:            "\x001",
		`\u0022\u005C\u000A`: "\"\\\n",
		`\uD7FF\uE000\uFFFF`: "\ud7ff\ue000\uffff",
		`\uFFFD`:             "\ufffd",
		`\uaBcD\uAbCd`:       "\uabcd\uabcd",
		"\t \u007f\u00e9":    "\t \u007f\u00e9",
		"\ufeff\ufffd\uffff": "\ufeff\ufffd\uffff",
		"/bfnrtu'`":          "/bfnrtu'`",
		"#,{}":               "#,{}",
	}
}

// quotedRefusals are the insides that no quoted string has: the chapter's, and some beside.
func quotedRefusals() []string {
	return []string{
		`\uDE00`, `\uD83Dx`, `\uD83D\n`, `\uD83D\uD83D\uDE00`, `\u12g4`, `\u123`, `\x`, `\`, `"`, "\n", "\x00", "\U0001F600",
		`\uD83D`, `\uD83D\`, `\uD83D\u`, `\uD83D\uDE0`, `\uD83D\u0041`, `\uD83Du`, `\uD83DDE00`, `\uD83DuDE00`, `\uD83D\\uDE00`, `\uD83D \uDE00`, `\uD83D\UDE00`, `\uDE00\uD83D`, `\uD83D\uDE00\uDE00`, `\uD83D\uE000`, `\uD83D\uDBFF`,
		`\u`, `\u0`, `\u12`, `\u{41}`, `\u+041`, `\u-041`, `\u 041`, `\u00 1`, `\u0x41`, `\U0041`, `\g`, `\a`, `\v`, `\0`, `\'`, `\ `, `\B`, `\N`, "\\\n", "\\\r", "\\\t", "\\\x08", "\\é", "\\\ufffd",
		`a\`, `\\\`, `a"`, `"a`, `a"b`, `""`, `\\"`, "a\nb", "a\rb", "\r\n", "\r", "\x08", "\x0b", "\x0c", "\x1f", "\U00010000", "\U0010FFFF", "ok\x00",
	}
}

// P6.1: the examples.
func TestQuotedExamples(t *testing.T) {
	for inside, want := range quotedExamples() {
		wantQuoted(t, []rune(inside), want)
		if _, ok := modelQuoted(inside); !ok {
			t.Errorf("the model refuses %q", inside)
		}
	}
	for _, inside := range quotedRefusals() {
		refuseQuoted(t, []rune(inside))
		if _, ok := modelQuoted(inside); ok {
			t.Errorf("the model takes %q", inside)
		}
	}
	wantQuoted(t, nil, "")
	wantQuoted(t, []rune{}, "")
}

// A piece that may not stand is refused wherever it stands, and taken ones don't hang on their neighbours.
func TestQuotedPiecesSideBySide(t *testing.T) {
	good := quotedExamples()
	for inside, want := range good {
		for other, more := range good {
			wantQuoted(t, text(inside, other), want+more)
		}
		for _, bad := range quotedRefusals() {
			refuseQuoted(t, text(inside, bad))
			if bad != `\` && bad != `a\` && bad != `\\\` && bad != `\uD83D\` && bad != `\uD83D` && !strings.HasPrefix(bad, `\u`) {
				refuseQuoted(t, text(bad, inside))
			}
		}
	}
}

func checkQuoted(t *testing.T, inside string) {
	t.Helper()
	if want, ok := modelQuoted(inside); ok {
		wantQuoted(t, []rune(inside), want)
	} else {
		refuseQuoted(t, []rune(inside))
	}
	if t.Failed() {
		t.FailNow()
	}
}

// P6.1: every text of a few pieces, held against the model.
func TestQuotedEveryShortText(t *testing.T) {
	check := func(s string) { checkQuoted(t, s) }
	everyText([]string{`\`, `u`, `D83D`, `DE00`, `0041`, `n`, `"`, "\n"}, 6, check)
	everyText([]string{`\u`, `D800`, `DBFF`, `DC00`, `dfff`, `D7FF`, `E000`, `\`}, 6, check)
	everyText([]string{`\u`, `0`, `9`, `a`, `F`, `g`, `d`, `8`}, 6, check)
	everyText([]string{`\`, `"`, `/`, `b`, `f`, `r`, `t`, ` `}, 6, check)
}

// P6.1: every character as itself, and every character behind a backslash, the runes that are no characters too.
func TestQuotedEveryRune(t *testing.T) {
	named := map[rune]string{'"': `"`, '\\': `\`, '/': "/", 'b': "\b", 'f': "\f", 'n': "\n", 'r': "\r", 't': "\t"}
	check := func(c rune) {
		if source(c) && c != '"' && c != '\\' && c != 0xA && c != 0xD {
			wantQuoted(t, []rune{c}, string(c))
			wantQuoted(t, []rune{'x', c, c}, "x"+string(c)+string(c))
		} else {
			refuseQuoted(t, []rune{c})
			refuseQuoted(t, []rune{'x', c})
		}
		if want, ok := named[c]; ok {
			wantQuoted(t, []rune{'\\', c}, want)
		} else {
			refuseQuoted(t, []rune{'\\', c})
		}
	}
	for c := rune(-0x200); c <= 0x110200; c++ {
		check(c)
	}
	for _, c := range oddRunes() {
		check(c)
	}
	for _, c := range []rune{'"', '\\', 'n', 'u', '/'} {
		check(c - 0x10000)
		check(c + 0x10000)
		check(c + 0x1000000)
		check(c | -0x80000000)
	}
}

// P6.1: every rune in the place of each digit.
func TestQuotedEveryDigit(t *testing.T) {
	for c := rune(-0x100); c <= 0x10100; c++ {
		for at := range 4 {
			inside := []rune(`\u0000`)
			inside[2+at] = c
			digit := strings.IndexRune("0123456789abcdef", c)
			if c >= 'A' && c <= 'F' {
				digit = int(c-'A') + 10
			}
			if digit < 0 {
				refuseQuoted(t, inside)
			} else {
				wantQuoted(t, inside, string(rune(digit)<<(12-4*at)))
			}
		}
	}
}

// P6.1: every number, with digits of either case.
func TestQuotedEveryNumber(t *testing.T) {
	for n := range rune(0x10000) {
		coded := fourDigits(n)
		for _, inside := range []string{coded, `\u` + strings.ToLower(coded[2:])} {
			if scalar(n) {
				wantQuoted(t, []rune(inside), string(n))
				wantQuoted(t, []rune(inside+`\uD83D\uDE00`), string(n)+"\U0001F600")
			} else {
				refuseQuoted(t, []rune(inside))
				refuseQuoted(t, []rune(inside+"DE00"))
			}
		}
	}
}

// P6.1: every half ahead of and behind every kind of number.
func TestQuotedEveryPair(t *testing.T) {
	others := []rune{0, 'A', 0xD7FF, 0xD800, 0xD801, 0xD83D, 0xDBFE, 0xDBFF, 0xDC00, 0xDC01, 0xDE00, 0xDFFE, 0xDFFF, 0xE000, 0xFFFF}
	for half := rune(0xD800); half <= 0xDFFF; half++ {
		for _, other := range others {
			checkQuoted(t, fourDigits(half)+fourDigits(other))
			checkQuoted(t, fourDigits(other)+fourDigits(half))
		}
	}
	for high := rune(0xD800); high <= 0xDBFF; high += 31 {
		for low := rune(0xDC00); low <= 0xDFFF; low++ {
			c := 0x10000 + (high-0xD800)*0x400 + (low - 0xDC00)
			wantQuoted(t, text(fourDigits(high), fourDigits(low)), string(c))
		}
	}
}

// P6.1: long rows of pieces, some with one wrong piece.
func TestQuotedRandom(t *testing.T) {
	random := rand.New(rand.NewSource(61))
	pieces := []string{"a", "é", "\uffff", "\t", `\"`, `\\`, `\/`, `\b`, `\f`, `\n`, `\r`, `\t`, `\u0041`, `\uD83D\uDE00`, `\uFFFF`, "u", "n", "DE00"}
	wrong := quotedRefusals()
	for range 20000 {
		var inside strings.Builder
		for range random.Intn(12) {
			inside.WriteString(pieces[random.Intn(len(pieces))])
			if random.Intn(20) == 0 {
				inside.WriteString(wrong[random.Intn(len(wrong))])
			}
		}
		checkQuoted(t, inside.String())
	}
}

// quoteTextExamples are the chapter's, and some beside.
func quoteTextExamples() map[string]string {
	return map[string]string{
		"":                       `""`,
		"\t/\U0001F600\u007f":    `"\t/\uD83D\uDE00\u007F"`,
		"\"\\\b\t\n\f\r":         `"\"\\\b\t\n\f\r"`,
		"\x00\x01\x0b\x1f":       `"\u0000\u0001\u000B\u001F"`,
		"\u0080\u009f\u2028":     "\"\u0080\u009f\u2028\"",
		"\uffff\ufffd\ufeff":     "\"\uffff\ufffd\ufeff\"",
		"\U00010000\U0010FFFF":   `"\uD800\uDC00\uDBFF\uDFFF"`,
		"\U0001ABCD":             `"\uD82A\uDFCD"`,
		`\u0041`:                 `"\\u0041"`,
		"'`<>&":                  "\"'`<>&\"",
		"bfnrt":                  `"bfnrt"`,
		"a b\u00e9\u00a0\ud7ff~": "\"a b\u00e9\u00a0\ud7ff~\"",
	}
}

// P6.4: the examples, and bytes that are not well formed.
func TestQuoteTextExamples(t *testing.T) {
	for value, want := range quoteTextExamples() {
		wantQuoteText(t, value, want)
	}
	for _, bad := range illFormed() {
		for _, value := range []string{bad, "a" + bad, bad + "a", "é\n" + bad + "\"", "\ufffd" + bad} {
			if s, e := strval.QuoteText(value); s != "" || e != api.ErrText {
				t.Errorf("QuoteText(%q) = %q, %d", value, s, e)
			}
		}
	}
}

// checkQuoteText holds P6.4 and the first half of P6.6.
func checkQuoteText(t *testing.T, value string) {
	t.Helper()
	want := modelQuoteText(value)
	wantQuoteText(t, value, want)
	wantQuoted(t, []rune(want[1:len(want)-1]), value)
	if t.Failed() {
		t.FailNow()
	}
}

// P6.4, P6.6: every character, alone and beside others.
func TestQuoteTextEveryCharacter(t *testing.T) {
	for c := rune(0); c <= 0x10FFFF; c++ {
		if scalar(c) {
			checkQuoteText(t, string(c))
		}
		if c < 0x300 || c&0xFFF == 0xFFF {
			checkQuoteText(t, `\`+string(c)+"0")
		}
	}
}

// P6.4, P6.6: every short text.
func TestQuoteTextEveryShortText(t *testing.T) {
	everyText([]string{"\\", "\"", "\n", "n", "u0041", "/", "\x00", "\U0001F600", "\u007f"}, 5, func(s string) { checkQuoteText(t, s) })
}
