package lits_test

import (
	"slices"
	"strings"
	"testing"

	"pergola/api"
	"pergola/lits"
)

// P13.1, P13.2: the chapter's examples.
func TestExamples(t *testing.T) {
	checkRows(t, build(t, chapter), []row{
		{`7`, "Int", "", "7"},
		{`"7"`, "Int", "value 1:1", ""},
		{`2147483648`, "Int", "value 1:1", ""},
		{`1.0`, "Int", "value 1:1", ""},
		{`7`, "Float", "", "7.0"},
		{`1e400`, "Float", "value 1:1", ""},
		{`-0`, "ID", "", `"0"`},
		{`"-0"`, "ID", "", `"-0"`},
		{`9223372036854775808`, "ID", "value 1:1", ""},
		{`[1 2]`, "[[Int]]", "", "[[1],[2]]"},
		{`3`, "[[Int!]!]!", "", "[[3]]"},
		{`null`, "[Int!]!", "value 1:1", ""},
		{`[null]`, "[Int!]!", "value 1:2", ""},
		{`{a: 1}`, "I", "", `{"a":1,"c":["A"],"d":4}`},
		{`{d: null a: 2 c: B}`, "I", "", `{"a":2,"c":["B"],"d":null}`},
		{`{}`, "I", "missing 1:1", ""},
		{`{a: 1 a: "x" e: {f: 1 f: 2}}`, "I", "value 1:10; none 1:14; same 1:2 1:7; same 1:18 1:23", ""},
		{`{a: $v}`, "I", "", ""},
		{`{a: [E {b: 1.5}] c: $v}`, "S", "", ""},
		{`{a: [E {b: 1.5}]}`, "S", "", `{"a":["E",{"b":1.5}]}`},
		{`C`, "E", "value 1:1", ""},
		{`"A"`, "E", "value 1:1", ""},
		{`{x: 1 x: 2}`, "T", "same 1:2 1:7", ""},
		{`1`, "Nowhere", "", ""},
		{`{}`, "R", "", ""},
	})
}

// leaves are literals of all kinds; a great one has 400 digits, too many for a float.
func leaves() []string {
	return []string{
		"0", "-0", "7", "-7", "2147483647", "2147483648", "-2147483648", "-2147483649",
		"9007199254740993", "9223372036854775807", "9223372036854775808", "-9223372036854775808", "-9223372036854775809", great, "-" + great,
		"0.0", "-0.0", "7.0", "7e0", "1.5", "1e23", "1e400", "-1e400", "1e-400", "-1e-400", "9223372036854775808.0", great + ".5", "0e99999999999999999999",
		`""`, `"7"`, `"A"`, `"true"`, `"null"`, `"$v"`, `"""A"""`, `"""1"""`, `"\u00e9\n"`,
		"true", "false", "A", "B", "C", "a", "True", "__typename", "[]", "{}",
	}
}

var great = strings.Repeat("9", 400)

// rounded is the float of 9223372036854775807, 9223372036854775808 and their like.
const rounded = "9223372036854776000.0"

// P13.1, P13.2: each named type takes the literals that are listed, and of all others none.
func TestWhatNamedTypesTake(t *testing.T) {
	types := build(t, chapter+" scalar True input Empty enum None")
	ints := map[string]string{"0": "0", "-0": "0", "7": "7", "-7": "-7", "2147483647": "2147483647", "-2147483648": "-2147483648"}
	floats := map[string]string{
		"0": "0.0", "-0": "0.0", "7": "7.0", "-7": "-7.0", "2147483647": "2147483647.0", "2147483648": "2147483648.0", "-2147483648": "-2147483648.0", "-2147483649": "-2147483649.0",
		"9007199254740993": "9007199254740992.0", "9223372036854775807": rounded, "9223372036854775808": rounded, "-9223372036854775808": "-" + rounded, "-9223372036854775809": "-" + rounded,
		"0.0": "0.0", "-0.0": "-0.0", "7.0": "7.0", "7e0": "7.0", "1.5": "1.5", "1e23": "1e23", "1e-400": "0.0", "-1e-400": "-0.0", "9223372036854775808.0": rounded, "0e99999999999999999999": "0.0",
	}
	texts := map[string]string{`""`: `""`, `"7"`: `"7"`, `"A"`: `"A"`, `"true"`: `"true"`, `"null"`: `"null"`, `"$v"`: `"$v"`, `"""A"""`: `"A"`, `"""1"""`: `"1"`, `"\u00e9\n"`: `"é\n"`}
	ids := map[string]string{
		"0": `"0"`, "-0": `"0"`, "7": `"7"`, "-7": `"-7"`, "2147483647": `"2147483647"`, "2147483648": `"2147483648"`, "-2147483648": `"-2147483648"`, "-2147483649": `"-2147483649"`,
		"9007199254740993": `"9007199254740993"`, "9223372036854775807": `"9223372036854775807"`, "-9223372036854775808": `"-9223372036854775808"`,
	}
	all := map[string]string{
		"0": "0", "-0": "0", "7": "7", "-7": "-7", "2147483647": "2147483647", "2147483648": "2147483648", "-2147483648": "-2147483648", "-2147483649": "-2147483649",
		"9007199254740993": "9007199254740993", "9223372036854775807": "9223372036854775807", "9223372036854775808": rounded, "-9223372036854775808": "-9223372036854775808", "-9223372036854775809": "-" + rounded,
		"0.0": "0.0", "-0.0": "-0.0", "7.0": "7.0", "7e0": "7.0", "1.5": "1.5", "1e23": "1e23", "1e-400": "0.0", "-1e-400": "-0.0", "9223372036854775808.0": rounded, "0e99999999999999999999": "0.0",
		"true": "true", "false": "false", "A": `"A"`, "B": `"B"`, "C": `"C"`, "a": `"a"`, "True": `"True"`, "__typename": `"__typename"`, "[]": "[]", "{}": "{}",
	}
	for text, value := range texts {
		ids[text], all[text] = value, value
	}
	for name, takes := range map[string]map[string]string{
		"Int": ints, "Float": floats, "String": texts, "ID": ids, "S": all, "True": all,
		"Boolean": {"true": "true", "false": "false"},
		"E":       {"A": `"A"`, "B": `"B"`},
		"I":       {}, "None": {}, "__TypeKind": {},
		"Empty": {"{}": "{}"},
	} {
		met := 0
		for _, text := range leaves() {
			value, ok := takes[text]
			faults := ""
			switch {
			case ok:
				met++
			case name == "I" && text == "{}":
				faults = "missing 1:1"
			default:
				faults = "value 1:1"
			}
			checkRows(t, types, []row{
				{text, name, faults, value},
				{text, name + "!", faults, value},
			})
			if text != "[]" {
				checkRows(t, types, []row{{text, "[" + name + "!]!", faults, listed(value)}})
			}
		}
		if met != len(takes) {
			t.Errorf("%s: %d of %d", name, met, len(takes))
		}
		checkRows(t, types, []row{
			{"null", name, "", "null"}, {"null", name + "!", "value 1:1", ""}, {"$v", name, "", ""}, {"$v", name + "!", "", ""},
		})
	}
	checkRows(t, types, []row{{"LIST", "__TypeKind", "", `"LIST"`}, {"list", "__TypeKind", "value 1:1", ""}, {"QUERY", "__DirectiveLocation!", "", `"QUERY"`}})
}

func listed(value string) string {
	if value == "" {
		return ""
	}
	return "[" + value + "]"
}

// P13.1, P13.2: null, variables, lists and all else at marks.
func TestMarks(t *testing.T) {
	checkRows(t, build(t, chapter), []row{
		{"null", "[Int]", "", "null"},
		{"null", "[Int!]", "", "null"},
		{"null", "[[Int!]!]", "", "null"},
		{"null", "[[Int]]!", "value 1:1", ""},
		{"[null]", "[Int]", "", "[null]"},
		{"[null]", "[[Int!]]", "", "[null]"},
		{"[null]", "[[Int]!]", "value 1:2", ""},
		{"[[null]]", "[[Int!]]", "value 1:3", ""},
		{"[[null] null]", "[[Int!]!]!", "value 1:3; value 1:9", ""},
		{"[[null] null]", "[[Int]]", "", "[[null],null]"},
		{"$v", "[Int!]!", "", ""},
		{"[$v]", "[Int!]!", "", ""},
		{"[$v 1]", "[Int]", "", ""},
		{"[1 $v]", "[Int]", "", ""},
		{"[[$v]]", "[[Int]]", "", ""},
		{"[]", "[Int!]!", "", "[]"},
		{"[]", "[[Int]]", "", "[]"},
		{"[[]]", "[[Int]]", "", "[[]]"},
		{"[[] 1 [2] null [3 4]]", "[[Int]]", "", "[[],[1],[2],null,[3,4]]"},
		{"1", "[Int]", "", "[1]"},
		{"1", "[[[[[Int!]]!]]]", "", "[[[[[1]]]]]"},
		{"[1]", "[[[[[Int!]]!]]]", "", "[[[[[1]]]]]"},
		{"[[1] [[2 3] 4]]", "[[[[Int]]]]", "", "[[[[1]]],[[[2],[3]],[[4]]]]"},
		{`"1"`, "[[Int]]", "value 1:1", ""},
		{`["1" 1 [2 "3"]]`, "[[Int]]", "value 1:2; value 1:11", ""},
		{"[[1]]", "[Int]", "value 1:2", ""},
		{"[[1]]", "Int", "value 1:1", ""},
		{"[1]", "Int!", "value 1:1", ""},
		{"{a: 1}", "[I]", "", `[{"a":1,"c":["A"],"d":4}]`},
		{"{a: 1}", "[[I!]!]!", "", `[[{"a":1,"c":["A"],"d":4}]]`},
		{"{}", "[[I!]!]!", "missing 1:1", ""},
		{"[{} [{}] {a: null}]", "[[I]]", "value 1:14; missing 1:2; missing 1:6", ""},
		{"[{a: 1}]", "I", "value 1:1", ""},
		{"[1 [2]]", "[S]", "", "[1,[2]]"},
		{"{a: 1}", "[S]", "", `[{"a":1}]`},
		{"[[1 [2]] 3]", "[[S]]", "", "[[1,[2]],[3]]"},
		{"[null [null]]", "[S]", "", "[null,[null]]"},
		{"[null [null]]", "[S!]", "value 1:2", ""},
		{"[[null]]", "[S!]!", "", "[[null]]"},
		{"[null]", "S!", "", "[null]"},
		{"A", "[E]", "", `["A"]`},
		{"[A C]", "[E]", "value 1:4", ""},
		{"\n [\n1\n, \"s\"]", "[Int]", "value 4:3", ""},
	})
}

// P13.1, P13.2: objects at input types.
func TestInputObjects(t *testing.T) {
	types := build(t, chapter+`
		input M {a: Int! b: String! = "s" c: [Int]! d: [Int!] e: E}
		extend input M {f: M g: [M!]}
		input Twice {a: Int a: String! b: Int! b: Int = 3 c: Int = 1 c: Int! c: Int = 2}
		input Empty`)
	checkRows(t, types, []row{
		{`{a: 1 c: 1}`, "M", "", `{"a":1,"b":"s","c":[1]}`},
		{`{c: [] a: 1}`, "M!", "", `{"a":1,"b":"s","c":[]}`},
		{`{}`, "M", "missing 1:1", ""},
		{`{a: 1}`, "M", "missing 1:1", ""},
		{`{c: 1}`, "M", "missing 1:1", ""},
		{`{a: $v c: $v}`, "M", "", ""},
		{`{a: null c: null}`, "M", "value 1:5; value 1:13", ""},
		{`{a: 1 b: null c: 1}`, "M", "value 1:10", ""},
		{`{a: 1 b: "t" c: 1 d: null e: null f: null g: null}`, "M", "", `{"a":1,"b":"t","c":[1],"d":null,"e":null,"f":null,"g":null}`},
		{`{g: null f: null e: B d: 1 c: 1 b: "t" a: 1}`, "M", "", `{"a":1,"b":"t","c":[1],"d":[1],"e":"B","f":null,"g":null}`},
		{`{a: 1 c: 1 d: [null]}`, "M", "value 1:16", ""},
		{`{a: 1 c: [null]}`, "M", "", `{"a":1,"b":"s","c":[null]}`},
		{`{a: 1 c: 1 f: {a: 2 c: 2 g: {a: 3 c: 3}}}`, "M", "", `{"a":1,"b":"s","c":[1],"f":{"a":2,"b":"s","c":[2],"g":[{"a":3,"b":"s","c":[3]}]}}`},
		{`{a: 1 c: 1 f: {a: 2 g: {}}}`, "M", "missing 1:15; missing 1:24", ""},
		{`{a: 1 c: 1 z: 1}`, "M", "none 1:12", ""},
		{`{a: 1 c: 1 z: null y: $v x: {} w: [1e400]}`, "M", "none 1:12; none 1:20; none 1:26; none 1:32", ""},
		{`{a: 1 c: 1 z: 1 z: 2}`, "M", "none 1:12; none 1:17; same 1:12 1:17", ""},
		{`{z: {z: {z: 1}}}`, "M", "none 1:2; missing 1:1", ""},
		{`{A: 1 c: 1}`, "M", "none 1:2; missing 1:1", ""},
		{`{a: 1 c: 1 a: 2}`, "M", "same 1:2 1:12", ""},
		{`{a: 1 a: 2 a: 3 c: 1 c: 2 a: 4}`, "M", "same 1:2 1:7 1:12 1:27; same 1:17 1:22", ""},
		{`{a: 1 a: 2}`, "M", "same 1:2 1:7; missing 1:1", ""},
		{`{a: "x" a: 1 a: E c: 1}`, "M", "value 1:5; value 1:17; same 1:2 1:9 1:14", ""},
		{`{a: 1 c: 1 f: {f: {f: {} f: {}}}}`, "M", "same 1:20 1:26; missing 1:15; missing 1:19; missing 1:23; missing 1:29", ""},
		{"{\n  c: {}\n a: []\n}", "M", "value 2:6; value 3:5", ""},

		// Of two fields of one name in a type the first counts.
		{`{b: 1}`, "Twice", "", `{"b":1,"c":1}`},
		{`{c: null a: null b: 1}`, "Twice", "", `{"a":null,"b":1,"c":null}`},
		{`{a: "s" b: 1}`, "Twice", "value 1:5", ""},
		{`{}`, "Twice", "missing 1:1", ""},
		{`{b: null}`, "Twice", "value 1:5", ""},

		{`{}`, "Empty", "", "{}"},
		{`{a: 1}`, "Empty", "none 1:2", ""},
		{`null`, "Empty!", "value 1:1", ""},
	})
}

// P13.1: of a literal that isn't taken the parts are looked at, at open places; at a custom scalar type they are at that type.
func TestPartsOfWhatIsNotTaken(t *testing.T) {
	checkRows(t, build(t, chapter), []row{
		{`[1e400 {a: 1 a: 2} [{b: 1 b: 2}]]`, "Int", "value 1:1; same 1:9 1:14; same 1:22 1:27", ""},
		{`{a: 1e400 a: [{b: null b: $v}]}`, "String!", "value 1:1; same 1:2 1:11; same 1:16 1:24", ""},
		{`{a: {a: 1 a: 2}}`, "E", "value 1:1; same 1:6 1:11", ""},
		{`[{} {a: 1 a: 2} null $v 1e400]`, "I", "value 1:1; same 1:6 1:11", ""},
		{`[[{a: 1 a: 2}]]`, "[I]", "value 1:2; same 1:4 1:9", ""},
		{`[{a: 1 a: 2}]`, "Boolean", "value 1:1; same 1:3 1:8", ""},
		{`[{a: 1 a: 2}]`, "ID", "value 1:1; same 1:3 1:8", ""},
		{`[[{a: 1 a: 2}]]`, "[Float!]!", "value 1:2; same 1:4 1:9", ""},
		{`{a: {b: {c: 1 c: 1}}}`, "I", "value 1:5; same 1:10 1:15", ""},
		{`{a: 1 b: [{}]}`, "I", "value 1:10", ""},
		{`{a: 1 b: [{c: 1 c: 2}]}`, "I", "value 1:10; same 1:12 1:17", ""},
		{`{a: 1 c: [[{c: 1 c: 2}]]}`, "I", "value 1:11; same 1:13 1:18", ""},
		{`{a: 1 e: {a: 1 a: 2 b: {}}}`, "I", "none 1:7; same 1:11 1:16", ""},

		{`1e400`, "S", "value 1:1", ""},
		{`[1e400 {a: 1e400 b: [-1e400 1]}]`, "S", "value 1:2; value 1:12; value 1:22", ""},
		{`{a: 1 b: {a: 1 a: [{a: 1 a: 1}]} a: 1}`, "S!", "same 1:2 1:34; same 1:11 1:16; same 1:21 1:26", ""},
		{`{a: null b: [null $v]}`, "S!", "", ""},
		{`{b: 1 a: [null true {} "s" """t""" X [] {c: 2}]}`, "S", "", `{"b":1,"a":[null,true,{},"s","t","X",[],{"c":2}]}`},
		{great, "S", "value 1:1", ""},
		{`[` + great + `]`, "S", "value 1:2", ""},
	})
}

// P13.1, P13.2: at a place of no type of input nothing is asked but that an object's fields have unlike names, and there is no value.
func TestOpenPlaces(t *testing.T) {
	types := build(t, chapter+" interface N {x: Int} union U = T directive @D on FIELD input O {t: T! n: [Nowhere!]! = 1 u: U s: S i: [Int]}")
	for _, name := range []string{"T", "N", "U", "D", "Nowhere", "skip", "__Type", "__Schema", "int", "E_"} {
		for _, form := range []string{"#", "#!", "[#]", "[#!]!", "[[#]!]!"} {
			want := strings.ReplaceAll(form, "#", name)
			for _, text := range append(leaves(), "null", "$v", "[null]", "[[1 null] {a: null}]", "{a: 1}", "{x: {}}") {
				checkRows(t, types, []row{{text, want, "", ""}})
			}
			checkRows(t, types, []row{
				{`{x: 1 x: 2}`, want, "same 1:2 1:7", ""},
				{`[{x: 1 y: {z: 1 z: 2 z: 3} x: 2} 1e400 {x: 1}]`, want, "same 1:3 1:28; same 1:12 1:17 1:22", ""},
			})
		}
	}
	for _, r := range []api.TypeRef{{}, {Wrap: "!"}, {Wrap: "]"}, {Wrap: "!]!"}} {
		alike(t, "no name", told(lits.Check(types, lit(t, "[null {a: 1e400 a: null}]"), r)), "same 1:8 1:17")
		if _, ok := lits.Const(types, lit(t, "null"), r); ok {
			t.Error("a value at no name", r)
		}
	}
	checkRows(t, types, []row{
		{`{t: 1}`, "O", "", ""},
		{`{t: null n: null}`, "O", "", ""},
		{`{}`, "O", "missing 1:1", ""},
		{`{t: [{a: 1 a: 2}] n: {b: 1 b: 2} u: 1e400}`, "O", "same 1:7 1:12; same 1:23 1:28", ""},
	})
	alone := build(t, "type T {x: Int} input O {t: T u: [T!] i: Int v: T = 1} input P {t: T u: [T!] i: Int v: [O] o: O} input Q {o: P = {t: 1} i: Int}")
	checkRows(t, alone, []row{
		{`{}`, "O", "", ""},
		{`{}`, "P", "", "{}"},
		{`{i: 1}`, "P", "", `{"i":1}`},
		{`{i: 1 t: null}`, "P", "", ""},
		{`{i: 1 u: []}`, "P", "", ""},
		{`{v: null}`, "P", "", `{"v":null}`},
		{`{v: []}`, "P", "", `{"v":[]}`},
		{`{v: {}}`, "P", "", ""},
		{`{v: {v: 1}}`, "P", "", ""},
		{`{}`, "Q", "", ""},
		{`{o: {}}`, "Q", "", `{"o":{}}`},
	})
}

// P13.1: names that definitions bear in vain: the built-in types stay, and of others the first counts.
func TestNamesOfTypes(t *testing.T) {
	checkRows(t, build(t, "enum Int {A} input String {a: Int} type ID {a: Int} enum X {A} scalar X input X {a: Int} type Y {a: Int} scalar Y extend enum X {B} extend input X {c: Int}"), []row{
		{"A", "Int", "value 1:1", ""}, {"1", "Int", "", "1"}, {"{a: 1}", "String", "value 1:1", ""}, {`"a"`, "String", "", `"a"`}, {"1", "ID", "", `"1"`},
		{"A", "X", "", `"A"`}, {"B", "X", "", `"B"`}, {"{a: 1}", "X", "value 1:1", ""}, {"1", "X", "value 1:1", ""}, {"1", "Y", "", ""},
	})
}

// P13.1, P13.2: a nil type system is one of no definitions.
func TestNilTypes(t *testing.T) {
	checkRows(t, nil, []row{
		{"1", "Int", "", "1"}, {`"1"`, "Int", "value 1:1", ""}, {"1", "[Float!]!", "", "[1.0]"}, {"null", "ID!", "value 1:1", ""}, {"-0", "ID", "", `"0"`},
		{"true", "Boolean", "", "true"}, {"SCALAR", "__TypeKind", "", `"SCALAR"`}, {"SCALE", "__TypeKind", "value 1:1", ""},
		{"{a: 1 a: 1}", "I", "same 1:2 1:7", ""}, {"1", "S", "", ""}, {"{}", "__Type!", "", ""}, {"{a: 1 a: 1}", "", "same 1:2 1:7", ""},
	})
	for _, text := range leaves() {
		for _, want := range []string{"Int", "Float", "String", "Boolean", "ID", "[ID!]", "__TypeKind", "S", "E", "__Type", ""} {
			none := build(t, "")
			alike(t, "Check", checkText(t, nil, text, want), checkText(t, none, text, want))
			alike(t, "Const", constText(t, nil, text, want), constText(t, none, text, want))
		}
	}
}

// P13.1: by kind, then by places, whatever the order in which they stand; each once.
func TestOrderOfFaults(t *testing.T) {
	types := build(t, "input I {a: Int! b: I c: [I]}")
	checkRows(t, types, []row{
		{"{c: [{} {z: 1} {a: 1 a: 2 a: \"s\"}] b: {b: 1} b: {a: E}}", "I",
			"value 1:30; value 1:43; value 1:53; none 1:10; same 1:17 1:22 1:27; same 1:36 1:46; missing 1:1; missing 1:6; missing 1:9; missing 1:39", ""},
		{"{z: 1 y: 2 z: 3 y: 4 x: 5 a: 1 x: 6}", "I", "none 1:2; none 1:7; none 1:12; none 1:17; none 1:22; none 1:32; same 1:2 1:12; same 1:7 1:17; same 1:22 1:32", ""},
	})
	v := api.Lit{Kind: api.LitList, Items: slices.Repeat([]api.Lit{{Kind: api.LitNull, Pos: api.Pos{Line: 1, Col: 1}}}, 3)}
	alike(t, "one place", told(lits.Check(types, v, api.TypeRef{Name: "Int", Wrap: "!]"})), "value 1:1")
}
