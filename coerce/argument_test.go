package coerce_test

import (
	"strings"
	"testing"

	"pergola/api"
	"pergola/coerce"
	"pergola/typesys"
)

// argumentRow are arguments as they stand behind a field's name, the variables as a JSON object, and what Arguments answers.
type argumentRow struct{ args, vars, want string }

func fieldArgs(t testing.TB, types *typesys.Types, field string) []api.InputDef {
	t.Helper()
	def, ok := types.Field("Query", field)
	if !ok {
		t.Fatal("no field", field)
	}
	return def.Args
}

func argsOf(t testing.TB, text string) []api.Arg {
	t.Helper()
	return parse(t, "{q"+text+"}").Defs[0].Sels[0].Args
}

func checkArguments(t *testing.T, types *typesys.Types, defs []api.InputDef, rows []argumentRow) {
	t.Helper()
	for _, r := range rows {
		if got := argumentsText(t, types, defs, argsOf(t, r.args), members(t, r.vars)); got != r.want {
			t.Errorf("%.200s with %s: got %.500s, want %.500s", r.args, r.vars, got, r.want)
		}
	}
}

// P22.5: what is given, what is preset, and what is missing.
func TestArguments(t *testing.T) {
	types := sound(t, chapter)
	checkArguments(t, types, fieldArgs(t, types, "q"), []argumentRow{
		{"(y: $v)", `{"v":5}`, `{"x":3,"y":5}`},
		{"(y: $w)", `{"v":5}`, fails},
		{"(x: null y: 1)", "", `{"x":null,"y":1}`},
		{"(z: 9 y: 1)", "", `{"x":3,"y":1,"z":9}`},
		{"(z: $w x: $w y: 1)", "", `{"x":3,"y":1}`},
		{"(z: $w x: $w y: 1)", `{"w":null}`, `{"x":null,"y":1,"z":null}`},
		{"(y: $w)", `{"w":null}`, fails},
		{"", "", fails},
		{"(x: 1)", "", fails},
		{"(i: {a: $v} y: 1)", `{"v":5}`, `{"x":3,"y":1,"i":{"a":5,"c":["A"],"d":4.0}}`},
		{"(i: {a: $v} y: 1)", "", fails},
		{"(i: {a: $v} y: 1)", `{"v":null}`, fails},
		{"(i: $v y: 1)", `{"v":{"a":7}}`, `{"x":3,"y":1,"i":{"a":7}}`},
		{"(r: {} y: 1)", "", fails},
		{"(r: {r: null} y: 1)", "", `{"x":3,"y":1,"r":{"r":null}}`},
		{"(y: 1 y: 2 x: 3 x: 4 k: 5)", "", `{"x":3,"y":1}`},
		{"(y: $w y: 2)", "", fails},
	})
}

// P22.5: a default that has no value fails, but only where it is wanted; each argument has room for itself.
func TestArgumentDefaults(t *testing.T) {
	nulls := func(n int) string { return "[" + strings.Repeat("null ", n) + "]" }
	types := sound(t, "input R {r: R = {}} type Query {a(r: R = {} s: [R]! = [] m: Int! = 4): Int b(l: [Int] = "+nulls(4096)+"): Int c(l: [Int] = "+nulls(4095)+" m: [Int]): Int d: Int}")
	checkArguments(t, types, fieldArgs(t, types, "a"), []argumentRow{
		{"", "", fails},
		{"(r: $w)", "", fails},
		{"(r: null)", "", `{"r":null,"s":[],"m":4}`},
		{"(r: $w)", `{"w":null}`, `{"r":null,"s":[],"m":4}`},
		{"(r: null s: $w m: $w)", "", `{"r":null,"s":[],"m":4}`},
		{"(r: null s: $w)", `{"w":null}`, fails},
		{"(r: null s: $v m: 5)", `{"v":[null]}`, `{"r":null,"s":[null],"m":5}`},
	})
	checkArguments(t, types, fieldArgs(t, types, "b"), []argumentRow{{"", "", fails}, {"(l: 1)", "", `{"l":[1]}`}})
	checkArguments(t, types, fieldArgs(t, types, "d"), []argumentRow{{"", "", "{}"}, {"(l: 1 m: $v)", "", "{}"}})
	great := strings.ReplaceAll(strings.TrimSpace(nulls(4095)), " ]", "]")
	json := strings.ReplaceAll(great, " ", ",")
	checkArguments(t, types, fieldArgs(t, types, "c"), []argumentRow{
		{"", "", `{"l":` + json + "}"},
		{"(m: " + great + ")", "", `{"l":` + json + `,"m":` + json + "}"},
		{"(m: $v)", `{"v":` + json + "}", `{"l":` + json + `,"m":` + json + "}"},
		{"(m: " + nulls(4096) + ")", "", fails},
	})
}

// P22.5: a directive's arguments, built-in ones among them, and an introspection field's.
func TestArgumentsOfOthers(t *testing.T) {
	types := sound(t, chapter+" directive @d(n: [Int!]! = 1 s: S) on FIELD")
	directive := func(name string) []api.InputDef {
		def, _ := types.Directive(name)
		return def.Inputs
	}
	checkArguments(t, types, directive("d"), []argumentRow{{"", "", `{"n":[1]}`}, {"(s: {a: $v} n: 2)", `{"v":1}`, `{"n":[2],"s":{"a":1}}`}, {"(n: [$v])", "", fails}})
	checkArguments(t, types, directive("skip"), []argumentRow{{"(if: $v)", `{"v":true}`, `{"if":true}`}, {"(if: $v)", "", fails}, {"(if: $v)", `{"v":null}`, fails}, {"(if: false)", "", `{"if":false}`}})
	checkArguments(t, types, directive("deprecated"), []argumentRow{{"", "", `{"reason":"No longer supported"}`}, {"(reason: null)", "", `{"reason":null}`}})
	checkArguments(t, types, fieldArgs(t, types, "__type"), []argumentRow{{`(name: "I")`, "", `{"name":"I"}`}, {"", "", fails}})
	def, _ := types.Field("__Type", "fields")
	checkArguments(t, types, def.Args, []argumentRow{{"", "", `{"includeDeprecated":false}`}, {"(includeDeprecated: $v)", `{"v":true}`, `{"includeDeprecated":true}`}})
}

// P22.5: no definitions, and members in the order of the definitions, not of the arguments.
func TestArgumentsOrder(t *testing.T) {
	types := sound(t, "type Query {q(z: Int y: Int = 2 x: Int w: Int!): Int}")
	checkArguments(t, types, fieldArgs(t, types, "q"), []argumentRow{
		{"(w: 1 x: 2 y: 3 z: 4)", "", `{"z":4,"y":3,"x":2,"w":1}`},
		{"(w: 1 z: 4)", "", `{"z":4,"y":2,"w":1}`},
	})
	if made, errno := coerce.Arguments(types, nil, argsOf(t, "(w: 1)"), nil); len(made) > 0 || errno != api.OK {
		t.Error(made, errno)
	}
}
