package printer_test

import (
	"testing"

	"pergola/api"
	"pergola/printer"
)

// Example 4, of references and literals.
func TestPartsExamples(t *testing.T) {
	literals.want(t, `{a:"""b"""c:[]d:{}}`, "{a: \"\"\"\nb\n\"\"\", c: [], d: {}}")
	same(t, "Type", printer.Type(api.TypeRef{Name: "Int", Wrap: "!]]!"}), "[[Int!]]!")
}

func TestTypes(t *testing.T) {
	for _, text := range []string{"Int", "Int!", "[Int]", "[Int]!", "[Int!]", "[Int!]!", "[[Int]]", "[[Int!]]!", "[[[a]!]]", "[[[[[_]!]!]!]!]!", "on", "true", "null"} {
		types.want(t, text, text)
	}
	types.want(t, " [ , [ Int ! ] #c\n ] ! ", "[[Int!]]!")
	for _, c := range []struct{ name, wrap, text string }{
		{"T", "", "T"},
		{"T", "!", "T!"},
		{"T", "]", "[T]"},
		{"T", "]!", "[T]!"},
		{"T", "!]", "[T!]"},
		{"T", "]]]", "[[[T]]]"},
		{"T", "!]!]!", "[[T!]!]!"},
	} {
		same(t, c.name+" "+c.wrap, printer.Type(api.TypeRef{Name: c.name, Wrap: c.wrap}), c.text)
	}
}

// Texts of numbers and names stand as they were written.
func TestLeaves(t *testing.T) {
	for _, text := range []string{
		"$v", "$true", "$null", "$on",
		"0", "-0", "7", "-12", "123456789012345678901234567890",
		"1.50E3", "0.0", "-0.0", "1e5", "1E+05", "1.0e-0", "1e999",
		"true", "false", "null", "TRUE", "nul", "E", "on", "_", "__a9",
		"[]", "{}",
	} {
		literals.want(t, text, text)
		literals.want(t, "["+text+" "+text+"]", "["+text+", "+text+"]")
		literals.want(t, "{a:"+text+" b:"+text+"}", "{a: "+text+", b: "+text+"}")
	}
}

func TestListsAndObjects(t *testing.T) {
	literals.want(t, "[1]", "[1]")
	literals.want(t, "[1 2,3]", "[1, 2, 3]")
	literals.want(t, "[[]]", "[[]]")
	literals.want(t, "[[]{}[[1]]]", "[[], {}, [[1]]]")
	literals.want(t, "{a:1}", "{a: 1}")
	literals.want(t, "{a:1 a:2 null:null}", "{a: 1, a: 2, null: null}")
	literals.want(t, "{a:{b:{c:[{d:$e}]}}f:[]}", "{a: {b: {c: [{d: $e}]}}, f: []}")
	literals.want(t, "[ -0 1.50E3 true null E $v \"\\u0041\\t\"]", "[-0, 1.50E3, true, null, E, $v, \"A\\t\"]")
}

// Quoted strings have one spelling.
func TestQuoted(t *testing.T) {
	for src, text := range map[string]string{
		`""`:                         `""`,
		`"a"`:                        `"a"`,
		`"\u0041\u00e9\u00E9"`:       `"Aéé"`,
		`"\"\\\/\b\f\n\r\t"`:         `"\"\\/\b\f\n\r\t"`,
		`"\u0000\u001f\u007f\u0080"`: "\"\\u0000\\u001F\\u007F\u0080\"",
		`"\u000a\u0022\u005C"`:       `"\n\"\\"`,
		`"\uD83D\uDE00"`:             `"\uD83D\uDE00"`,
		`"\ud83d\ude00"`:             `"\uD83D\uDE00"`,
		"\"\t# {a}, ...\"":           `"\t# {a}, ..."`,
		`"'"`:                        `"'"`,
		"\"\x7f\"":                   `"\u007F"`,
		"\"\ufeff\uffff\"":           "\"\ufeff\uffff\"",
		`"\"\"\""`:                   `"\"\"\""`,
	} {
		literals.want(t, src, text)
		literals.want(t, "["+src+" 1]", "["+text+", 1]")
		systems.want(t, src+"scalar S", text+"\nscalar S\n")
	}
}

// Block strings have one spelling too, and are no quoted ones.
func TestBlocks(t *testing.T) {
	for src, text := range map[string]string{
		`""""""`:                         `""""""`,
		`"""   """`:                      `""""""`,
		"\"\"\"\n\t\n\"\"\"":             `""""""`,
		`"""a"""`:                        "\"\"\"\na\n\"\"\"",
		`"""a """`:                       "\"\"\"\na \n\"\"\"",
		`""" a"""`:                       "\"\"\" a\n\"\"\"",
		"\"\"\"\ta\"\"\"":                "\"\"\"\ta\n\"\"\"",
		"\"\"\"\n a\n\"\"\"":             "\"\"\"\na\n\"\"\"",
		"\"\"\"a\n  b\n   c\"\"\"":       "\"\"\"\na\nb\n c\n\"\"\"",
		"\"\"\" a\n  b\"\"\"":            "\"\"\"\n a\nb\n\"\"\"",
		"\"\"\"\r\n  a\r    b\r\n\"\"\"": "\"\"\"\na\n  b\n\"\"\"",
		"\"\"\"a\n\n \n\nb\"\"\"":        "\"\"\"\na\n\n \n\nb\n\"\"\"",
		"\"\"\"\n  a\n    \n  b\"\"\"":   "\"\"\"\na\n  \nb\n\"\"\"",
		`"""\""""""`:                     "\"\"\"\n\\\"\"\"\n\"\"\"",
		`"""a\"""" ""b"""`:               "\"\"\"\na\\\"\"\"\" \"\"b\n\"\"\"",
		`"""\n\u0041\"""` + `"""`:        "\"\"\"\n\\n\\u0041\\\"\"\"\n\"\"\"",
		`"""\\""" """`:                   "\"\"\"\n\\\\\"\"\" \n\"\"\"",
		"\"\"\"#{a}\uffff\x7f\"\"\"":     "\"\"\"\n#{a}\uffff\x7f\n\"\"\"",
	} {
		literals.want(t, src, text)
		literals.want(t, "[{a:"+src+"}1]", "[{a: "+text+"}, 1]")
		systems.want(t, src+"scalar S", text+"\nscalar S\n")
	}
}
