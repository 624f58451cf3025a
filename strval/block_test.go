package strval_test

import (
	"math/rand"
	"strings"
	"testing"

	"pergola/api"
	"pergola/strval"
)

// blockExamples are the chapter's, and some beside.
func blockExamples() map[string]string {
	return map[string]string{
		"": "",
		byLF("", "    Hello,", "      World!", "", "    Yours,", "      GraphQL.", "  "): byLF("Hello,", "  World!", "", "Yours,", "  GraphQL."),
		"  a":                               "  a",
		byLF("  a", "    b", "   c"):        byLF("  a", " b", "c"),
		byLF("a", "  ", "    b"):            byLF("a", "", "b"),
		byLF("a", "      ", "    b"):        byLF("a", "  ", "b"),
		`\"""`:                              `"""`,
		`""a`:                               `""a`,
		`\\"""`:                             `\"""`,
		`\""a`:                              `\""a`,
		`\"""""a`:                           `"""""a`,
		`\"""\"""`:                          `""""""`,
		`""\"""""x`:                         `"""""""x`,
		`a\n\u0041\\ \/ `:                   `a\n\u0041\\ \/ `,
		"\" ":                               "\" ",
		"\\ ":                               "\\ ",
		"\"\n":                              "\"",
		"\\\n":                              "\\",
		"\"\"\n\"x":                         "\"\"\n\"x",
		"\\\n\"\"x":                         "\\\n\"\"x",
		"a\rb":                              "a\nb",
		"a\r\nb":                            "a\nb",
		"a\n\rb":                            "a\n\nb",
		"a\r\r\nb":                          "a\n\nb",
		"\r\n  a\r\n  b\r\n":                "a\nb",
		"\r\ra\r\r":                         "a",
		" \n\t\n":                           "",
		"\n\n":                              "",
		" ":                                 "",
		"\t":                                "",
		"\n\ta\n b":                         "a\nb",
		"\n\t a\n \tb\n\t\tc":               "a\nb\nc",
		"\n  \\\"\"\"\n    a":               "\"\"\"\n  a",
		"\n \u00a0a\n  b":                   "\u00a0a\n b",
		"\n ,a":                             ",a",
		"\ufeff\uffff\u007f":                "\ufeff\uffff\u007f",
		"  a\n":                             "  a",
		"\n  a":                             "a",
		"    first\n  second\n    third":    "    first\nsecond\n  third",
		"    \n  second\n    third\n      ": "second\n  third",
		"a\n\n\n  b\n \n":                   "a\n\n\nb",
	}
}

// blockRefusals are the insides that no block string has: the chapter's, and some beside.
func blockRefusals() []string {
	return []string{
		`a"`, `a\`, `"""`, `""`, `a"""b`, "\x00", `"`, `\`, `\\`, `\"`, `\""`, `\""""`, `\"""""`, `\"""\`, `\"""""""`, `\""""""a`, `\\"`, `""""`, `"""a`, `a\""b"""c`, ` """ `, `""\"`, "\n\"", "\n\\", "x\"\"\"\n", "\"\"\n\"\"\"", "\U0001F600", "a\x08", "\x0b", "\x1fa", "\U00010000", "a\n\x00\n",
	}
}

// P6.2: the examples.
func TestBlockExamples(t *testing.T) {
	for inside, want := range blockExamples() {
		wantBlock(t, []rune(inside), want)
		if v, ok := modelBlock(inside); !ok || v != want {
			t.Errorf("the model has %q of %q", v, inside)
		}
	}
	for _, inside := range blockRefusals() {
		refuseBlock(t, []rune(inside))
		if _, ok := modelBlock(inside); ok {
			t.Errorf("the model takes %q", inside)
		}
	}
	wantBlock(t, nil, "")
	wantBlock(t, []rune{}, "")
}

// checkBlock holds P6.2, and of P6.5 that a value that a block string has is answered with one.
func checkBlock(t *testing.T, inside string) {
	t.Helper()
	if want, ok := modelBlock(inside); ok {
		wantBlock(t, []rune(inside), want)
		checkBlockText(t, want)
		if _, ok := strval.BlockText(want); !ok {
			t.Errorf("Block(%q) is %q, of which BlockText has none", inside, want)
		}
	} else {
		refuseBlock(t, []rune(inside))
	}
	if t.Failed() {
		t.FailNow()
	}
}

// P6.2, P6.5: every text of a few pieces, held against the model.
func TestBlockEveryShortText(t *testing.T) {
	check := func(s string) { checkBlock(t, s) }
	everyText([]string{`\`, `"`, "a"}, 10, check)
	everyText([]string{`\`, `"`, "\n", " "}, 8, check)
	everyText([]string{"\n", " ", "a"}, 10, check)
	everyText([]string{"\n", "\r", " ", "\t", "a"}, 6, check)
	everyText([]string{`\"""`, `"`, `\`, "\n  ", "\r\n ", "b"}, 6, check)
}

// P6.2: every rune, those that are no characters too: what is no source character may stand nowhere.
func TestBlockEveryRune(t *testing.T) {
	check := func(c rune) {
		if !source(c) {
			refuseBlock(t, []rune{c})
			refuseBlock(t, []rune{'a', '\n', c, ' '})
			return
		}
		want, _ := modelBlock("a\n" + string(c) + "b\n  c")
		wantBlock(t, []rune{'a', '\n', c, 'b', '\n', ' ', ' ', 'c'}, want)
		if strings.ContainsRune("\t\n\r \"\\", c) {
			return
		}
		wantBlock(t, []rune{c}, string(c))
		wantBlock(t, []rune{' ', c, ' '}, " "+string(c)+" ")
	}
	for c := rune(-0x200); c <= 0x10200; c++ {
		check(c)
	}
	for _, c := range oddRunes() {
		check(c)
	}
	for _, c := range []rune{'"', '\\', '\n', ' '} {
		check(c - 0x10000)
		check(c + 0x10000)
		check(c + 0x1000000)
	}
}

// P6.2: a rune that is a quote or a backslash in its lower half alone is none.
func TestBlockRefusesWhatOnlyLooksLikeQuotes(t *testing.T) {
	for at := range 4 {
		inside := []rune(`\"""`)
		inside[at] += 0x10000
		refuseBlock(t, inside)
	}
}

// P6.2: long rows of pieces.
func TestBlockRandom(t *testing.T) {
	random := rand.New(rand.NewSource(62))
	pieces := []string{"a", "b c", "é", "\t", " ", "  ", "\n", "\n", "\r", "\r\n", "\n   ", "\n  \t", `\"""`, `\`, `"`, `""`, "\uffff", "x", "\n\n"}
	for range 30000 {
		var inside strings.Builder
		for range random.Intn(16) {
			inside.WriteString(pieces[random.Intn(len(pieces))])
		}
		checkBlock(t, inside.String())
	}
}

// blockTextExamples are the chapter's, and some beside.
func blockTextExamples() map[string]string {
	return map[string]string{
		"":                   `""""""`,
		"a":                  "\"\"\"\na\n\"\"\"",
		"  a":                "\"\"\"  a\n\"\"\"",
		"\ta ":               "\"\"\"\ta \n\"\"\"",
		"a ":                 "\"\"\"\na \n\"\"\"",
		`a""""b`:             "\"\"\"\na\\\"\"\"\"b\n\"\"\"",
		`"`:                  "\"\"\"\n\"\n\"\"\"",
		`""`:                 "\"\"\"\n\"\"\n\"\"\"",
		`"""`:                "\"\"\"\n\\\"\"\"\n\"\"\"",
		`""""""`:             "\"\"\"\n\\\"\"\"\\\"\"\"\n\"\"\"",
		`"""""""`:            "\"\"\"\n\\\"\"\"\\\"\"\"\"\n\"\"\"",
		` """`:               "\"\"\" \\\"\"\"\n\"\"\"",
		`\`:                  "\"\"\"\n\\\n\"\"\"",
		`\"""`:               "\"\"\"\n\\\\\"\"\"\n\"\"\"",
		`\"`:                 "\"\"\"\n\\\"\n\"\"\"",
		"\"\"\n\"":           "\"\"\"\n\"\"\n\"\n\"\"\"",
		" a\nb":              "\"\"\"\n a\nb\n\"\"\"",
		"a\n b":              "\"\"\"\na\n b\n\"\"\"",
		"a\n\nb":             "\"\"\"\na\n\nb\n\"\"\"",
		"a\n \n\t\nb":        "\"\"\"\na\n \n\t\nb\n\"\"\"",
		" a\n\nb\n c":        "\"\"\"\n a\n\nb\n c\n\"\"\"",
		"\u00a0a\n b":        "\"\"\"\n\u00a0a\n b\n\"\"\"",
		"\ufeff\u2028\u007f": "\"\"\"\n\ufeff\u2028\u007f\n\"\"\"",
	}
}

// blockTextRefusals are values without a block string: the chapter's, and some beside.
func blockTextRefusals() []string {
	out := []string{
		" a\n b", "a\n", "\n", "a\n ", " ", "\t", " \t ", "\na", " \na", "\n\n", "a\n\n", "\ta\n b", " a\n\n b", " a\n \n\tb\n  c", "a\r", "\r", "a\rb", "a\r\nb", "\x00", "a\x08b", "\x0c", "\x1f", "\U0001F600", "a\U00010000", "\U0010FFFF",
	}
	for _, bad := range illFormed() {
		out = append(out, bad, "a"+bad, bad+"a", "a\n"+bad+"\nb", "\ufffd"+bad)
	}
	return out
}

// P6.5: the examples.
func TestBlockTextExamples(t *testing.T) {
	for value, want := range blockTextExamples() {
		wantBlockText(t, value, want)
		checkBlockText(t, value)
	}
	for _, value := range blockTextRefusals() {
		refuseBlockText(t, value)
	}
}

// checkBlockText holds P6.5 and the second half of P6.6.
func checkBlockText(t *testing.T, value string) {
	t.Helper()
	want := modelBlockText(value)
	if want == "" {
		refuseBlockText(t, value)
	} else {
		wantBlockText(t, value, want)
		wantBlock(t, []rune(want[3:len(want)-3]), value)
	}
	if t.Failed() {
		t.FailNow()
	}
}

// P6.5, P6.6: every character, alone and beside others.
func TestBlockTextEveryCharacter(t *testing.T) {
	for c := rune(0); c <= 0x10FFFF; c++ {
		if scalar(c) && (c < 0x10200 || c&0xFF == 0xFF) {
			checkBlockText(t, string(c))
			checkBlockText(t, "a"+string(c)+"a\nb")
			checkBlockText(t, string(c)+"a\n b")
		}
	}
}

// P6.5, P6.6: every short text.
func TestBlockTextEveryShortText(t *testing.T) {
	check := func(s string) { checkBlockText(t, s) }
	everyText([]string{`"`, `\`, "\n", " ", "a"}, 7, check)
	everyText([]string{"\n", " ", "\t", "a", "\r", "\x00"}, 6, check)
	everyText([]string{`"`, "a", "\n"}, 10, check)
}

// dedentExamples are pairs of lines and what is left of them: the chapter's, and some beside.
func dedentExamples() [][2][][]rune {
	return [][2][][]rune{
		{lines("", "  a", " b"), lines(" a", "b")},
		{lines("", "  a", ""), lines("a")},
		{lines("  a"), lines("  a")},
		{lines(" ", ""), nil},
		{nil, nil},
		{{}, nil},
		{lines(""), nil},
		{{nil}, nil},
		{{nil, []rune("a"), nil}, lines("a")},
		{lines("", "", "", ""), nil},
		{lines("x", "   ", "  y", " "), lines("x", " ", "y")},
		{lines(" x", "\t\ty", "\tz"), lines(" x", "\ty", "z")},
		{lines("  a", "", "   b", " ", "  c", "", ""), lines("  a", "", " b", "", "c")},
		{lines("a", "b", "  c"), lines("a", "b", "  c")},
		{lines("a", "  "), lines("a")},
		{lines("a", "  ", "      ", " b"), lines("a", " ", "     ", "b")},
		{lines("", "    ", "  a "), lines("a ")},
		{lines("\t a", " \tb"), lines("\t a", "b")},
		{lines("  ", "  a", "  "), lines("a")},
		{lines("a", " \n", "  b"), lines("a", "\n", " b")},
		{lines("\n", "\r", " "), lines("\n", "\r")},
		{lines("\n"), lines("\n")},
		{lines("x", " \u00a0", "  \ufeff"), lines("x", "\u00a0", " \ufeff")},
	}
}

// P6.3: the examples.
func TestDedentExamples(t *testing.T) {
	for _, pair := range dedentExamples() {
		wantDedent(t, pair[0], pair[1])
	}
}

// everyList hands on all lists of at most length of the lines.
func everyList(all []string, length int, use func([]string)) {
	var grow func(list []string)
	grow = func(list []string) {
		use(list)
		if len(list) == length {
			return
		}
		for _, line := range all {
			grow(append(list[:len(list):len(list)], line))
		}
	}
	grow(nil)
}

// P6.3: every list of a few short lines, held against the model.
func TestDedentEveryShortList(t *testing.T) {
	var three, two []string
	everyText([]string{" ", "a"}, 3, func(s string) { three = append(three, s) })
	everyText([]string{" ", "\t", "a"}, 2, func(s string) { two = append(two, s) })
	check := func(list []string) {
		wantDedent(t, lines(list...), lines(modelDedent(list)...))
		if t.Failed() {
			t.FailNow()
		}
	}
	everyList(three, 4, check)
	everyList(two, 4, check)
	everyList([]string{"", " ", "  ", "a", " a", "  a"}, 6, check)
}

// P6.3: any rune but the two white ones is none of an indent, and stays as it is.
func TestDedentEveryRune(t *testing.T) {
	check := func(c rune) {
		in := [][]rune{{' '}, {' ', c}, {' ', ' ', c, ' '}, {c}, {' ', ' '}, {' ', ' ', ' ', c}, {' '}}
		want := [][]rune{{' ', c}, {' ', ' ', c, ' '}, {c}, {' ', ' '}, {' ', ' ', ' ', c}}
		if c == ' ' || c == '\t' {
			want = nil
		}
		wantDedent(t, in, want)
		in = [][]rune{{c}, {' ', c, c}, {' ', 'b'}}
		want = [][]rune{{c}, {c, c}, {'b'}}
		if c == ' ' || c == '\t' {
			want = [][]rune{{'b'}}
		}
		wantDedent(t, in, want)
	}
	for c := rune(-0x200); c <= 0x11000; c++ {
		check(c)
	}
	for _, c := range oddRunes() {
		check(c)
	}
	for _, c := range []rune{' ', '\t'} {
		check(c - 0x10000)
		check(c + 0x1000000)
	}
}

// P6.2, P6.3: what Block answers is what Dedent leaves of its lines.
func TestBlockIsDedent(t *testing.T) {
	everyList([]string{"", " ", "  ", "a", " b", "  c"}, 5, func(list []string) {
		if len(list) == 0 {
			return
		}
		var want []string
		for _, line := range strval.Dedent(lines(list...)) {
			want = append(want, string(line))
		}
		for _, end := range []string{"\n", "\r", "\r\n"} {
			v, e := strval.Block(text(strings.Join(list, end)))
			if v != byLF(want...) || e != api.OK {
				t.Fatalf("Block(%q by %q) = %q, %d", list, end, v, e)
			}
		}
	})
}
