package coerce_test

import (
	"errors"
	"math"
	"strings"
	"testing"

	"pergola/api"
	"pergola/coerce"
	"pergola/typesys"
)

// inputRow is a value at a type, and what Input answers: a JSON text, or a path, the word wants and a type.
type inputRow struct{ value, typ, want string }

func checkInputs(t *testing.T, types *typesys.Types, rows []inputRow) {
	t.Helper()
	for _, r := range rows {
		if got := inputText(t, types, value(t, r.value), ref(t, r.typ)); got != r.want {
			t.Errorf("%.200s at %s: got %.500s, want %.500s", r.value, r.typ, got, r.want)
		}
	}
}

// P22.2: the chapter's examples.
func TestInputExamples(t *testing.T) {
	checkInputs(t, sound(t, chapter), []inputRow{
		{"7", "Int", "7"},
		{"7.0", "Int", " wants Int"},
		{`"7"`, "Int", " wants Int"},
		{"2147483648", "Int", " wants Int"},
		{"7", "Float", "7.0"},
		{"0.5", "Float", "0.5"},
		{"-5", "ID", `"-5"`},
		{`"x"`, "ID", `"x"`},
		{"1.5", "ID", " wants ID"},
		{"[1,null]", "[Int!]!", "/1 wants Int!"},
		{"1", "[[Int]]", "[[1]]"},
		{"null", "[Int]", "null"},
		{`{"d":null,"a":1}`, "I", `{"a":1,"c":["A"],"d":null}`},
		{`{"a":1,"x":2,"c":[7]}`, "I!", "/x wants "},
		{`{"a":1,"b":{}}`, "I", "/b/a wants Int!"},
		{`{"a":1,"c":["A",["B"]]}`, "I", "/c/1 wants E"},
		{`"A"`, "E", `"A"`},
		{`"C"`, "E", " wants E"},
		{`{"p":[1,{"q":0.5}]}`, "S", `{"p":[1,{"q":0.5}]}`},
		{`[1,"x"]`, "[Int!]", "/1 wants Int"},
		{"null", "Int!", " wants Int!"},
	})
}

// P22.2, rules 1 to 3: marks.
func TestInputMarks(t *testing.T) {
	checkInputs(t, sound(t, chapter), []inputRow{
		{"null", "Int", "null"},
		{"null", "[Int!]!", " wants [Int!]!"},
		{"null", "[Int!]", "null"},
		{"1", "Int!", "1"},
		{`"x"`, "Int!", " wants Int"},
		{"[]", "[Int!]!", "[]"},
		{"[]", "[[Int]]", "[]"},
		{"[[]]", "[[Int]]", "[[]]"},
		{"[1,2]", "[[Int]]", "[[1],[2]]"},
		{"[1,[2,3],null,[null]]", "[[Int]]", "[[1],[2,3],null,[null]]"},
		{"[1,[2,3],null]", "[[Int]!]", "/2 wants [Int]!"},
		{"[1,[2,3],[4,null]]", "[[Int!]]", "/2/1 wants Int!"},
		{"[[1],[2,\"x\"]]", "[[Int!]]", "/1/1 wants Int"},
		{"7", "[[[Int!]!]!]!", "[[[7]]]"},
		{`"x"`, "[[[Int!]!]!]!", " wants Int"},
		{`["x"]`, "[[[Int!]!]!]!", "/0 wants Int"},
		{`[[["x"]]]`, "[[[Int!]!]!]!", "/0/0/0 wants Int"},
		{"[[[[1]]]]", "[[[Int]]]", "/0/0/0 wants Int"},
		{"[1]", "Int", " wants Int"},
		{"[1]", "[I]", "/0 wants I"},
		{`{"a":1}`, "[I!]!", `[{"a":1,"c":["A"],"d":4.0}]`},
		{`{"a":"1"}`, "[I!]!", "/a wants Int"},
		{`[{"a":1},{"a":null}]`, "[I!]!", "/1/a wants Int!"},
	})
}

// P22.2, rule 4: what isn't a type of input takes null alone.
func TestInputAtOpenTypes(t *testing.T) {
	types := sound(t, chapter+" interface N {x: Int} union U = Query")
	for _, name := range []string{"Query", "N", "U", "Nope", "__Type", "__Schema", "e", "int"} {
		checkInputs(t, types, []inputRow{
			{"null", name, "null"},
			{"null", name + "!", " wants " + name + "!"},
			{"1", name, " wants " + name},
			{"1", name + "!", " wants " + name},
			{"{}", name, " wants " + name},
			{"[]", name, " wants " + name},
			{"[]", "[" + name + "]!", "[]"},
			{"[null]", "[" + name + "]!", "[null]"},
			{"[null,null]", "[" + name + "!]", "/0 wants " + name + "!"},
			{"[null,1]", "[" + name + "]", "/1 wants " + name},
			{"true", "[[" + name + "]]", " wants " + name},
		})
	}
	if got := inputText(t, types, whole(1), api.TypeRef{}); got != " wants " {
		t.Error(got)
	}
}

// P22.2, rule 5: each built-in scalar, an enum, and a scalar of one's own, with values of all kinds.
func TestInputLeaves(t *testing.T) {
	no := func(name string) string { return " wants " + name }
	types := sound(t, chapter)
	checkInputs(t, types, []inputRow{
		{"2147483647", "Int", "2147483647"}, {"-2147483648", "Int", "-2147483648"}, {"-2147483649", "Int", no("Int")}, {"9223372036854775807", "Int", no("Int")},
		{"1.5", "Int", no("Int")}, {"true", "Int", no("Int")}, {"{}", "Int", no("Int")}, {"0", "Int", "0"}, {"1e3", "Int", no("Int")},
		{"9007199254740993", "Float", "9007199254740992.0"}, {"-9223372036854775808", "Float", "-9223372036854776000.0"}, {"0", "Float", "0.0"}, {"-0.0", "Float", "-0.0"}, {"1e300", "Float", "1e300"},
		{`"1"`, "Float", no("Float")}, {"false", "Float", no("Float")}, {"[]", "Float", no("Float")}, {"{}", "Float", no("Float")},
		{`""`, "String", `""`}, {`"é\n"`, "String", `"é\n"`}, {"1", "String", no("String")}, {"1.5", "String", no("String")}, {"true", "String", no("String")}, {"[]", "String", no("String")}, {`{"a":"b"}`, "String", no("String")},
		{"true", "Boolean", "true"}, {"false", "Boolean", "false"}, {"1", "Boolean", no("Boolean")}, {`"true"`, "Boolean", no("Boolean")}, {"0.0", "Boolean", no("Boolean")}, {"[true]", "Boolean", no("Boolean")},
		{"0", "ID", `"0"`}, {"9223372036854775807", "ID", `"9223372036854775807"`}, {"-9223372036854775808", "ID", `"-9223372036854775808"`}, {`""`, "ID", `""`}, {`"1.5"`, "ID", `"1.5"`},
		{"9223372036854775808", "ID", no("ID")}, {"true", "ID", no("ID")}, {"[]", "ID", no("ID")}, {"{}", "ID", no("ID")},
		{`"B"`, "E", `"B"`}, {`"a"`, "E", no("E")}, {`""`, "E", no("E")}, {"1", "E", no("E")}, {"true", "E", no("E")}, {`["A"]`, "E", no("E")}, {"{}", "E", no("E")},
		{`"LIST"`, "__TypeKind", `"LIST"`}, {`"FIELD"`, "__TypeKind", no("__TypeKind")}, {`"FIELD"`, "__DirectiveLocation", `"FIELD"`},
		{"1", "S", "1"}, {"1.0", "S", "1.0"}, {"-0.0", "S", "-0.0"}, {`"x"`, "S", `"x"`}, {"true", "S", "true"}, {"[]", "S", "[]"}, {"{}", "S", "{}"}, {"[null,[1,[{}]]]", "S", "[null,[1,[{}]]]"}, {"null", "S", "null"}, {`{"b":1,"a":null}`, "S!", `{"b":1,"a":null}`},
		{"[1,[2]]", "[S]", "[1,[2]]"}, {"[1,null]", "[S!]", "/1 wants S!"},
	})
}

// P22.2, rule 5: values that no JSON text has.
func TestInputOddLeaves(t *testing.T) {
	types := sound(t, chapter)
	float := func(f float64) api.Value { return api.Value{Kind: api.KindFloat, Float: f} }
	bad, nan := text("a\xff"), float(math.NaN())
	handle := api.Value{Kind: api.KindHandle, Type: "E", Text: "A"}
	for _, name := range []string{"Int", "Float", "String", "Boolean", "ID", "E", "S", "I"} {
		for _, v := range []api.Value{bad, nan, float(math.Inf(1)), float(math.Inf(-1)), handle} {
			for typ, path := range map[string]string{name: "", name + "!": "", "[[" + name + "]]": ""} {
				if got := inputText(t, types, v, ref(t, typ)); got != path+" wants "+name {
					t.Errorf("%v at %s: %s", v, typ, got)
				}
			}
			if got := inputText(t, types, list(api.Value{}, v), ref(t, "["+name+"]")); got != "/1 wants "+name {
				t.Errorf("%v in a list of %s: %s", v, name, got)
			}
		}
	}
	twice := object([]api.Member{{Name: "x"}, {Name: "x"}})
	badName := object([]api.Member{{Name: "\xff"}})
	for _, v := range []api.Value{twice, badName, bad, nan, handle, {Kind: 99}, {Kind: -1}} {
		for _, deep := range []api.Value{list(list(v)), object([]api.Member{{Name: "a", Value: v}})} {
			if got := inputText(t, types, deep, ref(t, "S!")); got != " wants S" {
				t.Errorf("%v at S!: %s", deep, got)
			}
		}
	}
}

// P22.2: a kind outside the table counts as null.
func TestInputKindsOutside(t *testing.T) {
	types := sound(t, chapter)
	for _, kind := range []api.Kind{-1, 8, 99, math.MinInt, math.MaxInt} {
		odd := api.Value{Kind: kind, Int: 7, Text: "A", Items: []api.Value{whole(1)}}
		for typ, want := range map[string]string{"Int": "null", "Int!": " wants Int!", "[Int!]": "null", "I": "null", "I!": " wants I!", "S": "null", "S!": " wants S!", "Nope": "null"} {
			if got := inputText(t, types, odd, ref(t, typ)); got != want {
				t.Errorf("kind %d at %s: %s", kind, typ, got)
			}
		}
		if got := inputText(t, types, list(whole(1), odd), ref(t, "[Int]")); got != "[1,null]" {
			t.Errorf("kind %d in a list: %s", kind, got)
		}
		if got := inputText(t, types, object([]api.Member{{Name: "a", Value: whole(1)}, {Name: "d", Value: odd}}), ref(t, "I")); got != `{"a":1,"c":["A"],"d":null}` {
			t.Errorf("kind %d in an object: %s", kind, got)
		}
	}
}

// P22.2: what a kind doesn't count is passed over, and isn't answered.
func TestInputPassesOver(t *testing.T) {
	types := sound(t, chapter)
	full := api.Value{Bool: true, Int: 7, Float: 1.5, Text: "A", Type: "E", Items: []api.Value{{Kind: api.KindHandle}}, Fields: []api.Member{{Name: "\xff"}}}
	for kind, rows := range map[api.Kind]map[string]string{
		api.KindNull:   {"Int": "null", "S": "null", "[I]": "null"},
		api.KindBool:   {"Boolean": "true", "S": "true", "[Boolean]": "[true]"},
		api.KindInt:    {"Int": "7", "Float": "7.0", "ID": `"7"`, "S": "7"},
		api.KindFloat:  {"Float": "1.5", "S": "1.5"},
		api.KindString: {"String": `"A"`, "ID": `"A"`, "E": `"A"`, "S": `"A"`},
	} {
		full.Kind = kind
		for typ, want := range rows {
			if got := inputText(t, types, full, ref(t, typ)); got != want {
				t.Errorf("kind %d at %s: %s", kind, typ, got)
			}
			if got := inputText(t, types, api.Value{Kind: api.KindList, Items: []api.Value{full}, Text: "x"}, ref(t, "["+typ+"]")); kind != api.KindNull && got != "["+want+"]" {
				t.Errorf("kind %d in a list at %s: %s", kind, typ, got)
			}
		}
	}
	full.Kind, full.Items = api.KindList, nil
	if got := inputText(t, types, full, ref(t, "[Int!]!")) + inputText(t, types, full, ref(t, "S")); got != "[][]" {
		t.Error(got)
	}
	full.Kind, full.Fields = api.KindObject, []api.Member{{Name: "a", Value: api.Value{Kind: api.KindInt, Text: "x"}}}
	if got := inputText(t, types, full, ref(t, "I")) + inputText(t, types, full, ref(t, "S")); got != `{"a":0,"c":["A"],"d":4.0}{"a":0}` {
		t.Error(got)
	}
}

// P22.2, rule 6: names ahead of values, then the type's fields in their order.
func TestInputObjects(t *testing.T) {
	types := sound(t, `type Query {a: Int} enum E {A B}
		input P {n: Int! m: Int! = 7 o: Int p: [P!] q: E = B s: String! = "s" z: P}
		extend input P {y: Boolean! x: [Int] = 1 w: Int = null}`)
	const rest = `"m":7,"q":"B","s":"s","y":true,"x":[1],"w":null}`
	checkInputs(t, types, []inputRow{
		{`{"y":true,"n":1}`, "P", `{"n":1,` + rest},
		{`{"w":5,"x":[],"y":false,"z":null,"s":"","q":"A","p":[],"o":2,"m":3,"n":1}`, "P", `{"n":1,"m":3,"o":2,"p":[],"q":"A","s":"","z":null,"y":false,"x":[],"w":5}`},
		{`{"n":1,"y":true,"p":{"n":2,"y":true}}`, "P!", `{"n":1,"m":7,"p":[{"n":2,` + rest + `],"q":"B","s":"s","y":true,"x":[1],"w":null}`},
		{`{"n":1,"y":true,"q":null,"x":null,"o":null,"p":null}`, "P", `{"n":1,"m":7,"o":null,"p":null,"q":null,"s":"s","y":true,"x":null,"w":null}`},
		{"{}", "P", "/n wants Int!"},
		{`{"n":1}`, "P", "/y wants Boolean!"},
		{`{"n":1,"s":1}`, "P", "/s wants String"},
		{`{"n":1,"w":"s"}`, "P", "/y wants Boolean!"},
		{`{"y":1,"z":1,"n":1}`, "P", "/z wants P"},
		{`{"y":true,"n":null}`, "P", "/n wants Int!"},
		{`{"y":true,"n":1,"m":null}`, "P", "/m wants Int!"},
		{`{"y":true,"n":1,"p":[null]}`, "P", "/p/0 wants P!"},
		{`{"y":"x","n":"x","k":1}`, "P", "/k wants "},
		{`{"y":"x","n":"x","k":1,"j":2}`, "[P]", "/k wants "},
		{`[{"n":1,"y":true},{"n":2,"y":true,"z":{"n":3,"y":true,"":0}}]`, "[P]", "/1/z/~2 wants "},
		{`{"n":1,"y":true,"z":{"n":3,"N":true},"w":"x"}`, "P", "/z/N wants "},
		{`{"n":1,"y":true,"z":{"n":3,"p":[{"n":1}]},"w":"x"}`, "P", "/z/p/0/y wants Boolean!"},
		{"1", "P", " wants P"}, {`"n"`, "P!", " wants P"}, {"[]", "P", " wants P"}, {"true", "P", " wants P"}, {"1.5", "P", " wants P"},
	})
}

// P22.2, rule 6: a name that two members bear, which no JSON text that is read has.
func TestInputDoubledMembers(t *testing.T) {
	types := sound(t, chapter)
	one := func(name string, v api.Value) api.Member { return api.Member{Name: name, Value: v} }
	for want, all := range map[string][]api.Member{
		"/a wants ":    {one("a", whole(1)), one("d", text("x")), one("a", whole(1))},
		"/d wants ":    {one("d", whole(1)), one("d", whole(1)), one("x", whole(1))},
		"/x wants ":    {one("a", whole(1)), one("x", whole(1)), one("a", whole(1))},
		"/b/a wants ":  {one("b", object([]api.Member{one("a", whole(1)), one("a", whole(1))})), one("a", whole(1))},
		"/a wants Int": {one("b", object([]api.Member{one("a", whole(1)), one("a", whole(1))})), one("a", text("x"))},
	} {
		if got := inputText(t, types, object(all), ref(t, "I!")); got != want {
			t.Errorf("got %s, want %s", got, want)
		}
	}
}

// P22.2, rule 7: a default that has no value, and only behind all other misfits.
func TestInputDefaultsWithoutValue(t *testing.T) {
	types := sound(t, "type Query {a: Int} input R {r: R = {}} input P {a: Int r: R = {} z: Int} input Q {p: [P] n: Int!} input T {p: P = {} z: [Int!]}")
	checkInputs(t, types, []inputRow{
		{"{}", "R", " wants R"},
		{"{}", "R!", " wants R!"},
		{"{}", "[[R!]]", " wants [[R!]]"},
		{"[{}]", "[R]", " wants [R]"},
		{`{"r":null}`, "R", `{"r":null}`},
		{`{"r":{"r":{"r":null}}}`, "R", `{"r":{"r":{"r":null}}}`},
		{`{"r":{"r":{}}}`, "R", " wants R"},
		{"{}", "P", " wants P"},
		{`{"z":"x"}`, "P", "/z wants Int"},
		{`{"r":null,"z":1}`, "P", `{"r":null,"z":1}`},
		{`{"p":[{"a":1}],"n":1}`, "Q!", " wants Q!"},
		{`{"p":[{"a":1}]}`, "Q", "/n wants Int!"},
		{`{"p":[{"a":1},{"a":"x"}],"n":1}`, "Q", "/p/1/a wants Int"},
		{`{"p":[{},{"b":1}],"n":1}`, "Q", "/p/1/b wants "},
		{`{"p":[{},{"r":null}],"n":1}`, "Q", " wants Q"},
		{`[{"r":null},{"r":{}},7]`, "[R]", "/2 wants R"},
		{"{}", "T", " wants T"},
		{`{"z":[1,null]}`, "T", "/z/1 wants Int!"},
		{`{"p":{"r":null}}`, "T", `{"p":{"r":null}}`},
	})
}

// many is a list of so many nulls.
func many(n int) api.Value { return api.Value{Kind: api.KindList, Items: make([]api.Value, n)} }

// P22.2, rule 7: a value of too many parts, its defaults' among them, and only behind all other misfits.
func TestInputMostParts(t *testing.T) {
	types := sound(t, "type Query {a: Int} scalar S input P {x: Int = 1 l: [[Int]] = 2 n: Int} input L {l: [Int] s: S m: P = {}}")
	long, over := many(api.MostParts-1), many(api.MostParts)
	bad := list(append(many(api.MostParts+5).Items, text("x"))...)
	check := func(v api.Value, typ, want string) {
		t.Helper()
		got := inputText(t, types, v, ref(t, typ))
		if want == "" {
			if strings.Contains(got, "wants") {
				t.Errorf("at %s: %s", typ, got)
			}
		} else if got != want {
			t.Errorf("at %s: %.200s, want %s", typ, got, want)
		}
	}
	for _, typ := range []string{"[Int]", "S", "[S]", "[Int]!", "[[Int]]!"} {
		check(long, typ, "")
		check(over, typ, " wants "+typ)
	}
	check(long, "[[Int]!]", "/0 wants [Int]!")
	check(bad, "[Int!]", "/0 wants Int!")
	check(bad, "[Int]", "/4101 wants Int")
	check(bad, "[Boolean!]!", "/0 wants Boolean!")
	// A lone item counts two parts: the list about it too.
	lone := make([]api.Value, 2047)
	for i := range lone {
		lone[i] = whole(1)
	}
	check(list(lone...), "[[Int]]", "")
	check(list(append(lone, api.Value{})...), "[[Int]]", "")
	check(list(append(lone, whole(1))...), "[[Int]]", " wants [[Int]]")
	// P has five parts with its defaults: itself, x, and l's three.
	empty := make([]api.Value, 819)
	for i := range empty {
		empty[i] = object(nil)
	}
	check(list(empty...), "[P]", "")
	check(list(append(empty, api.Value{})...), "[P!]", "/819 wants P!")
	check(list(append(empty, api.Value{})...), "[P]", " wants [P]")
	// L has its own part and P's five.
	given := func(name string, v api.Value) api.Value { return object([]api.Member{{Name: name, Value: v}}) }
	check(given("l", many(api.MostParts-7)), "L", "")
	check(given("l", many(api.MostParts-6)), "L", " wants L")
	check(given("s", many(api.MostParts-7)), "L", "")
	check(given("s", many(api.MostParts-6)), "L!", " wants L!")
	check(object([]api.Member{{Name: "s", Value: over}, {Name: "m", Value: given("n", text("x"))}}), "L", "/m/n wants Int")
}

// P22.2: a default of too many parts by itself, and one with room for just its own.
func TestInputGreatDefaults(t *testing.T) {
	nulls := func(n int) string { return "[" + strings.Repeat("null ", n) + "]" }
	types := sound(t, "type Query {a: Int} input P {l: [Int] = "+nulls(4095)+"} input Q {l: [Int] = "+nulls(4094)+"} input T {l: [Int] = "+nulls(4096)+" m: Int}")
	checkInputs(t, types, []inputRow{
		{"{}", "P", " wants P"},
		{`{"l":null}`, "P", `{"l":null}`},
		{"{}", "Q", `{"l":[null` + strings.Repeat(",null", 4093) + "]}"},
		{"{}", "[Q]", " wants [Q]"},
		{"{}", "T", " wants T"},
		{`{"m":"x"}`, "T", "/m wants Int"},
	})
}

// P22.2: the misfit as an error.
func TestMisfit(t *testing.T) {
	var none *coerce.Misfit
	if none.Error() != "" || none.Unwrap() != coerce.ErrMisfit {
		t.Error("a nil misfit:", none.Error(), none.Unwrap())
	}
	if !errors.Is(none, coerce.ErrMisfit) {
		t.Error("a nil misfit isn't one")
	}
	for _, m := range []*coerce.Misfit{{}, {Path: make([]api.Step, 3)}, {Want: api.TypeRef{Name: "\xff", Wrap: "x!!]["}}, {Path: []api.Step{{Name: "a", Index: -3, Item: true}}, Want: api.TypeRef{Name: "Int", Wrap: "!]"}}} {
		if m.Error() == "" || m.Unwrap() != coerce.ErrMisfit || !errors.Is(m, coerce.ErrMisfit) {
			t.Errorf("%v: %q, %v", m, m.Error(), m.Unwrap())
		}
	}
	if coerce.ErrMisfit == nil || coerce.ErrMisfit.Error() == "" {
		t.Error("ErrMisfit:", coerce.ErrMisfit)
	}
	if _, err := coerce.Input(nil, whole(1), api.TypeRef{Name: "Int"}); err != nil {
		t.Error("an error where none is:", err)
	}
}
