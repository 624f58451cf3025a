package lex_test

import (
	"strings"
	"testing"

	"pergola/api"
)

// Example 3, and more of its kind.
func TestNumbers(t *testing.T) {
	for _, s := range []string{"0", "-0", "1", "9", "10", "-12", "1234567890", "-9223372036854775809", strings.Repeat("9", 400)} {
		wantTokens(t, s, "i"+s+" E", 1, 1+len(s))
	}
	for _, s := range []string{"0.0", "-0.0", "1.5e-3", "1E5", "1e5", "1e+5", "0e0", "-1.25E+07", "0.10", "1e400", "1e-999", "1.0e00"} {
		wantTokens(t, s, "f"+s+" E", 1, 1+len(s))
	}
	for _, s := range []string{
		"00", "01", "-", "-a", "1.", "1.e5", "1e", "1e+", "1a", "1_", "0x1", "1.5.2", "1.5a", "1e5.", ".5",
		"-00", "-01", "000", "--1", "- 1", "-.5", "-.", "1..2", "1...", "0..", "1.5.", "1.a", "1._", "1. 5", "1e-", "1e 5", "1ee5", "1e5e5", "1e5a", "1e5_", "1e5.5", "1e+-5", "1e+a", "1.5e", "1.5e+", "1.5E-x", "1.5_", "1.5e5.", "0a", "0e", "0_", "0Z", "-1a", "-0x", "-\"a\"", "-{", "-,", "+1", "+", "12e", "12.", "1n", "0b1", "1f",
	} {
		wantBad(t, s)
		wantTokens(t, "a\n "+s, "na B", 2, 2)
	}
	wantTokens(t, "1-2", "i1 i-2 E", 1, 4)
	wantTokens(t, "1+2", "i1 B", 1, 2)
	wantTokens(t, "1.5-2.5", "f1.5 f-2.5 E", 1, 8)
	wantTokens(t, "1-", "i1 B", 1, 2)
	wantTokens(t, "0-0", "i0 i-0 E", 1, 4)
	wantTokens(t, "1e5-3", "f1e5 i-3 E", 1, 6)
	wantTokens(t, "1\"a\"", "i1 s\"a\" E", 1, 5)
	wantTokens(t, "1.5\"\"\"a\"\"\"2", "f1.5 k\"\"\"a\"\"\" i2 E", 1, 12)
	wantTokens(t, "1{1}1[1]1$", "i1 p{ i1 p} i1 p[ i1 p] i1 p$ E", 1, 11)
	wantTokens(t, "1,2\ufeff3#4\n5", "i1 i2 i3 i5 E", 2, 2)
	wantTokens(t, "1\\", "i1 B", 1, 2)
	wantTokens(t, "1\u00e9", "i1 B", 1, 2)
	wantTokens(t, "1\u0660", "i1 B", 1, 2)
	wantTokens(t, "1\u0435", "i1 B", 1, 2) // a letter that only looks like an e
	wantBad(t, "\u0661")
}

// Names: what may stand in them, and what ends them.
func TestNames(t *testing.T) {
	for _, s := range []string{"a", "Z", "_", "__typename", "a0", "A9_z", "on", "true", "null", "e5", "u0041", "abcdefghijklmnopqrstuvwxyz_ABCDEFGHIJKLMNOPQRSTUVWXYZ0123456789"} {
		wantTokens(t, s, "n"+s+" E", 1, 1+len(s))
		wantTokens(t, s+"\"x\""+s, "n"+s+" s\"x\" n"+s+" E", 1, 4+2*len(s))
		wantTokens(t, s+"!"+s, "n"+s+" p! n"+s+" E", 1, 2+2*len(s))
	}
	wantTokens(t, "a-", "na B", 1, 2)
	wantTokens(t, "a-1", "na i-1 E", 1, 4)
	wantTokens(t, "a.b", "na B", 1, 2)
	wantTokens(t, "a...b", "na p... nb E", 1, 6)
	wantTokens(t, "a\u00e9", "na B", 1, 2)
	wantTokens(t, "a\u0301", "na B", 1, 2)
	wantTokens(t, "a\uff10", "na B", 1, 2)
	wantTokens(t, "a\u212a", "na B", 1, 2) // the sign of the Kelvin is no K
	wantBad(t, "\u00e9a")
	wantBad(t, "\u03b1")
	wantTokens(t, "a\n_\r\n1", "na n_ i1 E", 3, 2)
}

// Example 4: rows of quotes.
func TestQuotes(t *testing.T) {
	row := func(n int) string { return strings.Repeat("\"", n) }
	wantBad(t, row(1))
	wantValue(t, row(2), api.TokString, "")
	wantBad(t, row(3))
	wantBad(t, row(4))
	wantBad(t, row(5))
	wantValue(t, row(6), api.TokBlock, "")
	wantTokens(t, row(7), "k"+row(6)+" B", 1, 7)
	wantTokens(t, row(8), "k"+row(6)+" s"+row(2)+" E", 1, 9)
	wantTokens(t, row(9), "k"+row(6)+" B", 1, 7)
	wantTokens(t, row(12), "k"+row(6)+" k"+row(6)+" E", 1, 13)
	wantBad(t, row(3)+"\\"+row(4))
	wantBad(t, row(3)+"\\"+row(3))
	wantBad(t, row(3)+"\\"+row(5))
	wantTokens(t, row(2)+" "+row(2), "s"+row(2)+" s"+row(2)+" E", 1, 6)
	wantTokens(t, row(2)+"a", "s"+row(2)+" na E", 1, 4)
	wantTokens(t, row(2)+"1"+row(2), "s"+row(2)+" i1 s"+row(2)+" E", 1, 6)
}

// Example 5: quoted strings.
func TestQuoted(t *testing.T) {
	for src, value := range map[string]string{
		`"a"`:              "a",
		`"\u0041"`:         "A",
		`"\uD83D\uDE00"`:   "\U0001F600",
		`"\""`:             `"`,
		`"\\"`:             `\`,
		`"\\\""`:           `\"`,
		`"a\"\"b"`:         `a""b`,
		`"\b\f\n\r\t\/"`:   "\b\f\n\r\t/",
		`"#{},...1"`:       "#{},...1",
		"\"\t\ufeff\"":     "\t\ufeff",
		"\"\u00e9\x7f\"":   "\u00e9\x7f",
		"\"\u2028\u0085\"": "\u2028\u0085",
		`"\u0000"`:         "\x00",
		`"\u000a"`:         "\n",
		`" a "`:            " a ",
		"\"\uffff\"":       "\uffff",
		`"\u0022"`:         `"`,
		`"\u005c"`:         `\`,
	} {
		wantValue(t, src, api.TokString, value)
	}
	for _, src := range []string{
		`"a`, `"\uD83D"`, `"\uDE00\uD83D"`, `"\u{41}"`, `"\x"`, `"\u12"`, `"a\"`, `"\`, `"\\`, `"\\\"`, `"\u`, `"\u004"`, `"\uD83D\n"`, `"\ "`, `"\'"`, `"\"`, `"\" a`,
		"\"a\n\"", "\"a\r\"", "\"a\r\n\"", "\"\n", "\"\r", "\"\\\n\"", "\"\\\r\"", "\"\x00\"", "\"a\x1fb\"", "\"\\\x00\"", "\"\x0b\"", "\"\U0001F600\"", "\"\\\U0001F600\"", "\"\xff\"", "\"\\\xff\"",
	} {
		wantBad(t, src)
		wantTokens(t, "{ "+src, "p{ B", 1, 3)
	}
	wantTokens(t, "x \"a\n\"", "nx B", 1, 3)
	wantTokens(t, `"a""b"`, `s"a" s"b" E`, 1, 7)
	wantTokens(t, `"a"b`, `s"a" nb E`, 1, 5)
	wantTokens(t, `"a"1`, `s"a" i1 E`, 1, 5)
	wantTokens(t, `"\\"a`, `s"\\" na E`, 1, 6)
	wantTokens(t, `"\"a`, `B`, 1, 1)
	wantTokens(t, `"a" "b`, `s"a" B`, 1, 5)
	wantTokens(t, `"a"""`, `s"a" s"" E`, 1, 6)
	wantTokens(t, `"a""""`, `s"a" B`, 1, 4)
	wantTokens(t, `"a""""""" b`, `s"a" k"""""" nb E`, 1, 12)
}

// Block strings: what ends them, what does not, and their values.
func TestBlocks(t *testing.T) {
	const q = `"""`
	for inside, value := range map[string]string{
		"":                       "",
		"a":                      "a",
		" a ":                    " a ",
		"\n  a\n   b\\\"\"\"\n":  "a\n b\"\"\"",
		"\r\n\ta\r\tb\n":         "a\nb",
		`\"""`:                   q,
		`\"""\"""`:               q + q,
		`\\"""`:                  `\"""`,
		`\\\"""`:                 `\\"""`,
		`""a`:                    `""a`,
		`"a""b`:                  `"a""b`,
		`\"a\""b`:                `\"a\""b`,
		`\n\u0041\x`:             `\n\u0041\x`,
		`\a`:                     `\a`,
		"#{},":                   "#{},",
		"\u2028\ufeff\x7f\t\"\n": "\u2028\ufeff\x7f\t\"",
		"a\\\n":                  "a\\",
	} {
		wantValue(t, q+inside+q, api.TokBlock, value)
	}
	for _, src := range []string{
		q + "a", q + "a\"", q + "a\"\"", q + "\\", q + "\\" + q, q + "\\" + q + "\"\"", q + "a\n", q + "a\r\n\"\"", q + "\x00" + q, q + "a\x08", q + "\U0001F600" + q, q + "\\\x00" + q, q + "\\\"\"\x00\"" + q, q + "\xff" + q, q + "a\x1f",
	} {
		wantBad(t, src)
		wantTokens(t, "[\n\n"+src, "p[ B", 3, 1)
	}
	wantTokens(t, q+"a"+q+"b", "k"+q+"a"+q+" nb E", 1, 9)
	wantTokens(t, q+"a"+q+"1", "k"+q+"a"+q+" i1 E", 1, 9)
	wantTokens(t, q+"a"+q+`"b"`, "k"+q+"a"+q+` s"b" E`, 1, 11)
	wantTokens(t, q+"a"+q+"\"", "k"+q+"a"+q+" B", 1, 8)
	wantTokens(t, q+"\n\n"+q+" \\", "k"+q+"\n\n"+q+" B", 3, 5)
}
