package coerce_test

import (
	"strconv"
	"strings"
	"testing"

	"pergola/api"
	"pergola/coerce"
	"pergola/lits"
	"pergola/typesys"
)

// literalRow is a literal at a type, the variables as a JSON object, and what Literal answers: a JSON text, or a word.
type literalRow struct{ lit, typ, vars, want string }

func checkLiterals(t *testing.T, types *typesys.Types, rows []literalRow) {
	t.Helper()
	for _, r := range rows {
		v, want := lit(t, r.lit), ref(t, r.typ)
		if faults := lits.Check(types, v, want); len(faults) > 0 {
			t.Fatalf("%s at %s: %v", r.lit, r.typ, faults)
		}
		if got := literalText(t, types, v, want, members(t, r.vars)); got != r.want {
			t.Errorf("%.200s at %s with %s: got %.500s, want %.500s", r.lit, r.typ, r.vars, got, r.want)
		}
	}
}

// P22.4: the chapter's examples.
func TestLiteralExamples(t *testing.T) {
	checkLiterals(t, sound(t, chapter), []literalRow{
		{"{a: $v b: {a: 2 b: $w} c: $u}", "I", `{"v":5,"u":null}`, `{"a":5,"b":{"a":2,"c":["A"],"d":4.0},"c":null,"d":4.0}`},
		{"{a: $w}", "I", "", fails},
		{"[$v $w]", "[Int]", `{"v":5}`, "[5,null]"},
		{"[$v $w]", "[Int!]", `{"v":5}`, fails},
		{"$w", "Int", "", isNone},
		{"{p: $w q: [$w $v]}", "S", `{"v":5}`, `{"q":[null,5]}`},
	})
}

// P22.4, rules 1 and 2: a variable and null at marks of all kinds.
func TestLiteralVariables(t *testing.T) {
	types := sound(t, chapter)
	for _, typ := range []string{"Int", "Int!", "[Int]", "[Int!]!", "I", "I!", "S", "S!", "E!"} {
		null := "null"
		if strings.HasSuffix(typ, "!") {
			null = fails
		}
		rows := []literalRow{{"$v", typ, "", isNone}, {"$v", typ, `{"w":1,"V":2}`, isNone}, {"$v", typ, `{"v":null}`, null}}
		// A variable's value isn't held against the type again.
		for _, v := range []string{"5", `"x"`, "[1,[null]]", `{"z":{"z":-0.0}}`, "true", "[]", "{}"} {
			rows = append(rows, literalRow{"$v", typ, `{"w":null,"v":` + v + `}`, v})
		}
		if null == "null" {
			rows = append(rows, literalRow{"null", typ, "", "null"})
		} else if got := literalText(t, types, lit(t, "null"), ref(t, typ), nil); got != fails {
			t.Errorf("null at %s: %s", typ, got)
		}
		checkLiterals(t, types, rows)
	}
	twice := []api.Member{{Name: "u"}, {Name: "v", Value: whole(5)}, {Name: "u", Value: whole(6)}, {Name: "v"}}
	if got := literalText(t, types, lit(t, "[$v $u]"), ref(t, "[Int]"), twice); got != "[5,null]" {
		t.Error("the first of a name counts:", got)
	}
}

// P22.4, rules 3 and 4: lists.
func TestLiteralLists(t *testing.T) {
	checkLiterals(t, sound(t, chapter), []literalRow{
		{"3", "[[Int]]", "", "[[3]]"},
		{"3", "[[Int!]!]!", "", "[[3]]"},
		{"[3 [4 $v] $w null]", "[[Int]]", `{"v":5,"w":[6]}`, "[[3],[4,5],[6],null]"},
		{"[$w]", "[[Int]]", "", "[null]"},
		{"[$w]", "[[Int]!]", "", fails},
		{"[[$w]]", "[[Int]!]!", "", "[[null]]"},
		{"[[$w]]", "[[Int!]]", "", fails},
		{"[$w]", "[Int!]", `{"w":null}`, fails},
		{"[$w]", "[Int]", `{"w":null}`, "[null]"},
		{"[]", "[Int!]!", "", "[]"},
		{"{a: $v}", "[I]", `{"v":1}`, `[{"a":1,"c":["A"],"d":4.0}]`},
		{"{a: $v}", "[[I!]!]!", "", fails},
		{"[{a: $v} $w {a: 2 d: $w}]", "[I]", `{"v":1}`, `[{"a":1,"c":["A"],"d":4.0},null,{"a":2,"c":["A"],"d":4.0}]`},
		{"A", "[[E!]]", "", `[["A"]]`},
		{"[A $v B]", "[E!]", `{"v":"A"}`, `["A","A","B"]`},
	})
}

// P22.4, rule 5: input objects, whose members come in the order of the type's fields.
func TestLiteralObjects(t *testing.T) {
	types := sound(t, `type Query {a: Int} enum E {A B} scalar S
		input P {n: Int! m: Int! = 7 o: Int p: [P!] q: E = B z: P r: R s: S} input R {r: R = {}}`)
	checkLiterals(t, types, []literalRow{
		{"{o: 3 n: 1}", "P", "", `{"n":1,"m":7,"o":3,"q":"B"}`},
		{"{q: $a o: $b m: $c n: $d}", "P!", `{"a":"A","b":2,"c":3,"d":4}`, `{"n":4,"m":3,"o":2,"q":"A"}`},
		{"{q: $a o: $b m: $c n: $d}", "P", `{"d":4}`, `{"n":4,"m":7,"q":"B"}`},
		{"{q: $a o: $b m: $c n: $d}", "P", `{"a":null,"b":null,"d":4}`, `{"n":4,"m":7,"o":null,"q":null}`},
		{"{q: $a o: $b m: $c n: $d}", "P", `{"c":null,"d":4}`, fails},
		{"{q: $a o: $b m: $c n: $d}", "P", `{"d":null}`, fails},
		{"{q: $a o: $b m: $c n: $d}", "P", "", fails},
		{"{n: 1 p: {n: $d}}", "P", `{"d":4}`, `{"n":1,"m":7,"p":[{"n":4,"m":7,"q":"B"}],"q":"B"}`},
		{"{n: 1 p: [{n: $d} $e]}", "P", `{"d":4,"e":7}`, `{"n":1,"m":7,"p":[{"n":4,"m":7,"q":"B"},7],"q":"B"}`},
		{"{n: 1 p: [{n: $d} $e]}", "P", `{"d":4}`, fails},
		{"{n: 1 p: $d z: $d}", "P", "", `{"n":1,"m":7,"q":"B"}`},
		{"{n: 1 z: {n: $d}}", "P", "", fails},
		{"{n: 1 r: {}}", "P", "", fails},
		{"{n: 1 r: {r: $d}}", "P", "", fails},
		{"{n: 1 r: {r: $d}}", "P", `{"d":null}`, `{"n":1,"m":7,"q":"B","r":{"r":null}}`},
		{"{n: 1 r: $d}", "P", "", `{"n":1,"m":7,"q":"B"}`},
		{"{n: 1 s: [$d {a: $d}]}", "P", "", `{"n":1,"m":7,"q":"B","s":[null,{}]}`},
		{"{n: 1 s: $d}", "P", `{"d":[{}]}`, `{"n":1,"m":7,"q":"B","s":[{}]}`},
		{"{n: 1 z: null o: null}", "P", "", `{"n":1,"m":7,"o":null,"q":"B","z":null}`},
	})
	// Of two fields of one name the first counts, and one that the type hasn't is passed over.
	if got := literalText(t, types, lit(t, "{o: $v n: 1 n: 2 o: 3 k: 4}"), ref(t, "P"), members(t, `{"v":9}`)); got != `{"n":1,"m":7,"o":9,"q":"B"}` {
		t.Error(got)
	}
}

// P22.4, rule 6: lists and objects at a scalar of one's own.
func TestLiteralFree(t *testing.T) {
	checkLiterals(t, sound(t, chapter), []literalRow{
		{"{b: $v a: {c: [$w A null {d: $w}] d: $w}}", "S", `{"v":[1,{"x":null}]}`, `{"b":[1,{"x":null}],"a":{"c":[null,"A",null,{}]}}`},
		{"[$w $v [$w] []]", "S!", `{"v":null}`, "[null,null,[null],[]]"},
		{"{}", "S", "", "{}"},
		{"[]", "S", "", "[]"},
		{"[]", "[S]", "", "[]"},
		{"[[] {a: $w} $w]", "[S]", "", "[[],{},null]"},
		{"[$w]", "[S!]", "", fails},
		{"[[$w]]", "[S!]", "", "[[null]]"},
		{"{a: $v}", "[[S!]!]", `{"v":1}`, `[[{"a":1}]]`},
		{`{a: 1 b: 1.0 c: "x" d: true e: A f: 9223372036854775808 g: -0 h: -0.0}`, "S", "", `{"a":1,"b":1.0,"c":"x","d":true,"e":"A","f":9223372036854776000.0,"g":0,"h":-0.0}`},
	})
}

// P22.4, rule 7, and P22.6: a literal without variables is layer 13's, whatever the variables are.
func TestLiteralConst(t *testing.T) {
	checkLiterals(t, sound(t, chapter), []literalRow{
		{"7", "Int", `{"v":1}`, "7"}, {"-2147483648", "Int!", "", "-2147483648"}, {"7", "Float", "", "7.0"}, {"-0", "Float", "", "0.0"}, {"-0.0", "Float", "", "-0.0"},
		{"7", "ID", "", `"7"`}, {`"7"`, "ID", "", `"7"`}, {`"""x"""`, "String", "", `"x"`}, {"true", "Boolean", "", "true"}, {"false", "Boolean!", "", "false"},
		{"A", "E", "", `"A"`}, {"LIST", "__TypeKind!", "", `"LIST"`}, {"A", "S", "", `"A"`}, {"1.5", "S", "", "1.5"},
		{"{}", "R", "", fails}, {"[{r: null} {}]", "[R]", "", fails}, {"{r: {r: null}}", "R", `{"r":1}`, `{"r":{"r":null}}`},
	})
}

// P22.4: literals that Check refuses fail or have a value, but don't panic; those that no rule gives a value fail.
func TestLiteralRefused(t *testing.T) {
	types := sound(t, chapter)
	for _, r := range []struct{ lit, typ string }{
		{`"x"`, "Int"}, {"1.5", "Int"}, {"1", "String"}, {"1", "E"}, {`"A"`, "E"}, {"C", "E"}, {"[A]", "E"}, {"{a: 1}", "Int"}, {"[1]", "Int"}, {"1", "I"}, {"[]", "I"},
		{"1", "Query"}, {"1", "Nope"}, {"[1]", "[Nope]"}, {"{}", "Query"}, {"null", "Int!"}, {"[null]", "[Int!]"}, {"{a: null}", "I"}, {"{}", "I"}, {"1e400", "S"}, {"[1e400]", "S"},
	} {
		if got := literalText(t, types, lit(t, r.lit), ref(t, r.typ), nil); got != fails {
			t.Errorf("%s at %s: %s", r.lit, r.typ, got)
		}
	}
}

// P22.4: a value of too many parts fails, those of variables and defaults among them.
func TestLiteralMostParts(t *testing.T) {
	types := sound(t, "type Query {a: Int} scalar S enum E {A} input P {x: Int = 1 l: [[Int]] = 2 n: Int} input L {l: [Int] s: S m: P = {}}")
	check := func(text, typ string, vars []api.Member, fit bool) {
		t.Helper()
		v, want := lit(t, text), ref(t, typ)
		if got := literalText(t, types, v, want, vars); (got != fails) != fit || got == isNone {
			t.Errorf("%.100s at %s: %.200s", text, typ, got)
		}
		if constant, ok := lits.Const(types, v, want); len(lits.Vars(v)) == 0 && ok != fit {
			t.Errorf("%.100s at %s: layer 13 has %.100v", text, typ, constant)
		}
	}
	repeat := func(text string, n int) string { return "[" + strings.Repeat(text+" ", n) + "]" }
	v := func(n int) []api.Member { return []api.Member{{Name: "v", Value: many(n)}} }
	for _, r := range []struct {
		text, typ string
		most      int
	}{
		{"null", "[Int]", 4095}, {"1", "[Int!]!", 4095}, {"1", "[[Int]]", 2047}, {"A", "[E]", 4095}, {"{}", "[P]", 819}, {"[]", "S", 4095}, {"{a: 1}", "S", 2047}, {"[{}]", "[[P]]", 682}, {"$w", "[Int]", 4095}, {"$w", "S", 4095},
	} {
		check(repeat(r.text, r.most), r.typ, nil, true)
		check(repeat(r.text, r.most+1), r.typ, nil, false)
	}
	check("$v", "[Int]", v(4095), true)
	check("$v", "[Int]", v(4096), false)
	check("[$v]", "[[Int]]", v(4094), true)
	check("[$v]", "[[Int]]", v(4095), false)
	check("[$v $v]", "[[Int]]", v(2046), true)
	check("[$v $v null]", "[[Int]]", v(2046), true)
	check("[$v $v null null]", "[[Int]]", v(2046), false)
	check("[$v $v]", "[[Int]]", v(2047), false)
	check("{l: $v}", "L", v(4096-7), true)
	check("{l: $v}", "L", v(4096-6), false)
	check("{l: $v m: $w}", "L", v(4096-6), false)
	check("{l: $v m: null}", "L", v(4096-3), true)
	check("{l: $v m: null}", "L", v(4096-2), false)
	check("{s: {a: $w b: [$v]}}", "L", v(4096-9), true)
	check("{s: {a: $w b: [$v]}}", "L", v(4096-8), false)
	// Fields that have no value are no parts.
	var absent strings.Builder
	for i := range 5000 {
		absent.WriteString("a" + strconv.Itoa(i) + ": $w ")
	}
	check("{"+absent.String()+"}", "S", nil, true)
}

// P22.4: what is answered of a variable has nothing but what counts.
func TestLiteralIsPlain(t *testing.T) {
	types := sound(t, chapter)
	odd := api.Value{Kind: api.KindList, Text: "x", Int: 3, Items: []api.Value{{Kind: api.KindInt, Int: 5, Text: "x"}, {Int: 7}, {Kind: api.KindObject, Bool: true, Fields: []api.Member{{Name: "a", Value: api.Value{Kind: api.KindBool, Bool: true, Float: 3}}}}}}
	vars := []api.Member{{Name: "v", Value: odd}, {Name: "u", Value: api.Value{Text: "null"}}}
	if got := literalText(t, types, lit(t, "{a: $v b: [$u $v]}"), ref(t, "S"), vars); got != `{"a":[5,null,{"a":true}],"b":[null,[5,null,{"a":true}]]}` {
		t.Error(got)
	}
	handle := api.Value{Kind: api.KindHandle, Type: "T", Text: "x"}
	if got, has, errno := coerce.Literal(types, lit(t, "$v"), ref(t, "S"), []api.Member{{Name: "v", Value: handle}}); !has || errno != api.OK || got.Kind != api.KindHandle || got.Type != "T" || got.Text != "x" {
		t.Error(got, has, errno)
	}
}
