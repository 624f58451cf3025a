package lits_test

import (
	"math"
	"strconv"
	"strings"
	"testing"

	"pergola/api"
	"pergola/lits"
	"pergola/tree"
	"pergola/typesys"
)

// P13.2: every field of a value that its kind doesn't use is zero; 0.0 and -0.0 are two values.
func TestValuesField(t *testing.T) {
	types := build(t, chapter)
	text := func(s string) api.Value { return api.Value{Kind: api.KindString, Text: s} }
	float := func(f float64) api.Value { return api.Value{Kind: api.KindFloat, Float: f} }
	whole := func(n int64) api.Value { return api.Value{Kind: api.KindInt, Int: n} }
	for _, c := range []struct {
		lit, want string
		value     api.Value
	}{
		{"null", "Int", api.Value{}},
		{"7", "Int", whole(7)},
		{"-0", "Int", whole(0)},
		{"-0", "Float", float(0)},
		{"-0.0", "Float", float(math.Copysign(0, -1))},
		{"0", "Float", float(0)},
		{"7", "Float", float(7)},
		{"9007199254740993", "Float", float(9007199254740992)},
		{"-0", "S", whole(0)},
		{"-0.0", "S", float(math.Copysign(0, -1))},
		{"7", "S", whole(7)},
		{"7.0", "S", float(7)},
		{"9223372036854775808", "S", float(1 << 63)},
		{"true", "Boolean", api.Value{Kind: api.KindBool, Bool: true}},
		{"false", "S", api.Value{Kind: api.KindBool}},
		{"A", "E", text("A")},
		{"A", "S", text("A")},
		{`"A"`, "S", text("A")},
		{`"""A"""`, "String", text("A")},
		{`"A"`, "ID", text("A")},
		{"[]", "[Int]", api.Value{Kind: api.KindList}},
		{"1", "[Int]", api.Value{Kind: api.KindList, Items: []api.Value{whole(1)}}},
		{"{}", "S", api.Value{Kind: api.KindObject}},
		{"{a: 1}", "I", api.Value{Kind: api.KindObject, Fields: []api.Member{{Name: "a", Value: whole(1)}, {Name: "c", Value: api.Value{Kind: api.KindList, Items: []api.Value{text("A")}}}, {Name: "d", Value: whole(4)}}}},
	} {
		got, ok := lits.Const(types, lit(t, c.lit), ref(t, c.want))
		if !ok || !tree.Equal(got, c.value) {
			t.Errorf("%s at %s: %v, %v", c.lit, c.want, got, ok)
		}
		alike(t, c.lit+" at "+c.want, got, c.value)
	}
}

// P13.2: defaults are filled in, theirs too, in the order of the type's fields.
func TestDefaults(t *testing.T) {
	checkRows(t, build(t, `
		enum E {A B} scalar S type T {x: Int}
		input D {a: Int = 1 b: Float = 2 c: ID = 3 d: [String!] = "s" e: E = B f: S = {x: [A 1.5 null] y: "B"} g: [[Int]] = [1 null [2]] h: Int = null i: Boolean! = true j: Int}
		input F {d: D = {} n: Int e: [D] = [{a: 2} {}] m: Int = 5}
		input G {f: F = {n: 7}}
		input K {a: K b: K = {a: null b: null} c: Int = 9}
		input Bad {a: Int = "s" b: Int}
		input Worse {a: Bad = {} b: Bad = {a: 1 b: 2}}
	`), []row{
		{"{}", "D", "", `{"a":1,"b":2.0,"c":"3","d":["s"],"e":"B","f":{"x":["A",1.5,null],"y":"B"},"g":[[1],null,[2]],"h":null,"i":true}`},
		{"{j: 0 i: false h: 1 g: null f: null e: null d: null c: null b: null a: null}", "D", "", `{"a":null,"b":null,"c":null,"d":null,"e":null,"f":null,"g":null,"h":1,"i":false,"j":0}`},
		{"{j: 8 b: -0}", "[D]", "", `[{"a":1,"b":0.0,"c":"3","d":["s"],"e":"B","f":{"x":["A",1.5,null],"y":"B"},"g":[[1],null,[2]],"h":null,"i":true,"j":8}]`},
		{"{d: null e: []}", "F", "", `{"d":null,"e":[],"m":5}`},
		{"{m: 1 e: null d: null n: 2}", "F", "", `{"d":null,"n":2,"e":null,"m":1}`},
		{"{f: {d: null e: null}}", "G", "", `{"f":{"d":null,"e":null,"m":5}}`},
		{"{}", "K", "", `{"b":{"a":null,"b":null,"c":9},"c":9}`},
		{"{b: {} a: {b: null}}", "K", "", `{"a":{"b":null,"c":9},"b":{"b":{"a":null,"b":null,"c":9},"c":9},"c":9}`},

		// A default that has no value itself is in the way only where it is wanted.
		{"{}", "Bad", "", ""},
		{"{b: 1}", "Bad", "", ""},
		{"{a: 1}", "Bad", "", `{"a":1}`},
		{"{a: null b: 3}", "Bad", "", `{"a":null,"b":3}`},
		{"{}", "Worse", "", ""},
		{"{a: null}", "Worse", "", `{"a":null,"b":{"a":1,"b":2}}`},
		{"{a: {a: 3}}", "Worse", "", `{"a":{"a":3},"b":{"a":1,"b":2}}`},
		{"[{a: null} {}]", "[Worse]", "", ""},
		{"[{} {a: null}]", "[Worse]", "", ""},
	})
	const others = "enum E {A B} scalar S type T {x: Int} input F {n: Int} input M {a: Int!} input N {a: Nowhere} input O {a: Int = A} "
	for _, bad := range []string{
		"b: Int! = null", "c: [Int!] = [1 null]", "d: E = C", "d: E = \"A\"", "e: Int = [1]", "e: Int = 2147483648", "f: F = {z: 1}", "f: F = {n: 1 n: 2}", "f: F = {n: A}", "f: [F] = [{} {n: A}]", "f: F = 1",
		"h: M = {}", "i: Nowhere = 1", "i: [Nowhere] = []", "i: Nowhere! = null", "j: T = null", "n: N = {a: 1}", "o: O = {}", "k: S = {a: 1 a: 1}", "l: S = [1e400]", "s: String = true", "t: Boolean = 1", "u: ID = 1.0", "v: Float = \"1\"",
	} {
		types := build(t, others+"input Z {y: Int "+bad+" z: Int}")
		name, _, _ := strings.Cut(bad, ":")
		checkRows(t, types, []row{{"{}", "Z", "", ""}, {"{y: 1}", "Z", "", ""}, {"[{y: 1}]", "[Z]", "", ""}})
		if name == "b" {
			checkRows(t, types, []row{{"{b: 1}", "Z", "", `{"b":1}`}})
		} else if name != "i" && name != "j" {
			checkRows(t, types, []row{{"{" + name + ": null z: 1}", "Z", "", `{"` + name + `":null,"z":1}`}})
		}
	}
}

// P13.2: defaults that need themselves have no end, and no value; where a ring is broken there is one.
func TestRingsOfDefaults(t *testing.T) {
	checkRows(t, build(t, `
		input R {r: R = {} i: Int}
		input L {l: [[L!]!]! = {}}
		input A {b: B = {}} input B {c: [C] = [{}]} input C {a: A = {} x: Int}
		input P {q: Q = {}} input Q {p: P = {q: null}}
		input Far {r: A = {b: {c: [{a: null} {x: 1}]}}}
		input Both {a: Int = 1 r: R = {i: 2} z: Int = "bad"}
		input None {r: [R!] = [] s: R = null}
		input Own {o: Own = {o: {o: {o: {}}}}}
		input Two {a: Two = {b: {}} b: Two = {a: {}}}
		input Ends {a: Ends = {a: null b: {a: null b: null}} b: Ends = {a: {a: null b: null} b: null}}
	`), []row{
		{"{}", "R", "", ""},
		{"{i: 1}", "R", "", ""},
		{"{r: null}", "R", "", `{"r":null}`},
		{"{i: 1 r: {r: null}}", "R", "", `{"r":{"r":null},"i":1}`},
		{"{r: {}}", "R", "", ""},
		{"[{r: null} {}]", "[R]", "", ""},
		{"{}", "L", "", ""},
		{"{l: []}", "L", "", `{"l":[]}`},
		{"{l: [[{l: []}]]}", "L", "", `{"l":[[{"l":[]}]]}`},
		{"{}", "A", "", ""}, {"{}", "B", "", ""}, {"{}", "C", "", ""}, {"{x: 1}", "C", "", ""},
		{"{a: null}", "C", "", `{"a":null}`},
		{"{c: []}", "B", "", `{"c":[]}`},
		{"{}", "P", "", `{"q":{"p":{"q":null}}}`},
		{"{}", "Q", "", `{"p":{"q":null}}`},
		{"{}", "Far", "", ""},
		{"{}", "Both", "", ""},
		{"{}", "None", "", `{"r":[],"s":null}`},
		{"{s: {}}", "None", "", ""},
		{"{}", "Own", "", ""}, {"{o: null}", "Own", "", `{"o":null}`},
		{"{}", "Two", "", ""}, {"{a: null}", "Two", "", ""}, {"{a: null b: null}", "Two", "", `{"a":null,"b":null}`},
		{"{}", "Ends", "", `{"a":{"a":null,"b":{"a":null,"b":null}},"b":{"a":{"a":null,"b":null},"b":null}}`},
	})
}

// ones is a list of that many items.
func ones(n int) string { return "[" + strings.Repeat("1 ", n) + "]" }

// hasParts: Const has a value just if it has at most MostParts parts; Check has no fault either way.
func hasParts(t *testing.T, types *typesys.Types, v, want string, count int) {
	t.Helper()
	if got := checkText(t, types, v, want); got != "" {
		t.Errorf("%.100s at %s: %s", v, want, got)
	}
	value, ok := lits.Const(types, lit(t, v), ref(t, want))
	if ok != (count <= api.MostParts) {
		t.Errorf("%.100s at %s, %d parts: %v", v, want, count, ok)
	}
	if ok && tree.Count(value) != count {
		t.Errorf("%.100s at %s: %d parts, want %d", v, want, tree.Count(value), count)
	}
	if !ok {
		written(t, value, ok)
	}
}

// P13.2: literals of just MostParts parts and of one more, without defaults.
func TestMostParts(t *testing.T) {
	types := build(t, "scalar S input I {a: [Int] b: I c: [I!]}")
	for d := -3; d <= 3; d++ {
		count := api.MostParts + d
		hasParts(t, types, ones(count-1), "[Int]", count)
		hasParts(t, types, ones(count-1), "[Int!]!", count)
		hasParts(t, types, ones(count-1), "S", count)
		hasParts(t, types, "["+ones(count-2)+"]", "[S]", count)
		hasParts(t, types, ones(count-1), "[S]", count)
		hasParts(t, types, "["+ones(count-2)+"]", "[[Int]]", count)
		hasParts(t, types, "{a: "+ones(count-2)+"}", "I", count)
		hasParts(t, types, "{b: {} a: "+ones(count-5)+" c: {}}", "I", count)
		hasParts(t, types, "["+strings.Repeat("null ", count-1)+"]", "[I]", count)
		hasParts(t, types, "["+strings.Repeat("{} ", count-1)+"]", "[I]", count)
		hasParts(t, types, "["+strings.Repeat("{} ", count-1)+"]", "S", count)
		hasParts(t, types, "{"+fieldsText(count-1)+"}", "S", count)
		if odd := count - 1; odd%2 == 0 {
			hasParts(t, types, ones(odd/2), "[[Int]]", count) // each item is a list of one
		}
	}
	for _, count := range []int{1 << 13, 1 << 16} {
		hasParts(t, types, ones(count-1), "[Int]", count)
		hasParts(t, types, ones(count-1), "S", count)
	}
}

func fieldsText(n int) string {
	var out strings.Builder
	for i := range n {
		out.WriteString("a" + strconv.Itoa(i) + ": X ")
	}
	return out.String()
}

// doubling are the types L0 to L<n>: each has two fields whose defaults are of the type below.
func doubling(n int) string {
	var out strings.Builder
	out.WriteString("input L0 {x: Int = 1} ")
	for i := 1; i <= n; i++ {
		below := "L" + strconv.Itoa(i-1)
		out.WriteString("input L" + strconv.Itoa(i) + " {x: " + below + " = {} y: [" + below + "!]! = {} n: [Int!]} ")
	}
	return out.String()
}

// P13.2: defaults that double come to MostParts in few steps; beyond it there is no value, however far.
func TestDefaultsThatDouble(t *testing.T) {
	types := build(t, doubling(100)+"input W {l: L9 = {} n: [Int] m: [Int] = "+ones(5)+"}")
	count := 2
	for i := 1; i <= 100; i++ {
		count = min(2*count+2, 1<<40) // an object, one below, a list of one below
		hasParts(t, types, "{}", "L"+strconv.Itoa(i), count)
		if i > 10 {
			hasParts(t, types, "{x: null y: []}", "L"+strconv.Itoa(i), 3)
			hasParts(t, types, "{x: null}", "L"+strconv.Itoa(i), count)
		}
	}
	base := 2
	for range 9 {
		base = 2*base + 2
	}
	for d := -3; d <= 3; d++ {
		count := api.MostParts + d
		hasParts(t, types, "{n: "+ones(count-base-8)+"}", "W", count)
		hasParts(t, types, "{n: "+ones(count-base-3)+" m: null}", "W", count)
		hasParts(t, types, "{l: {} n: "+ones(count-base-8)+"}", "W", count)
	}
}

// P13.2: a default that has just MostParts parts has a value, but what holds it has one part more.
func TestDefaultsOfMostParts(t *testing.T) {
	for d := -3; d <= 3; d++ {
		count := api.MostParts + d
		types := build(t, "scalar S input I {a: [Int] = "+ones(count-2)+" b: I} input J {s: S = "+ones(count-3)+" t: Int = 1} input K {i: I = {b: {a: null}} j: Int}")
		hasParts(t, types, "{}", "I", count)
		hasParts(t, types, "{a: null}", "I", 2)
		hasParts(t, types, "{}", "J", count)
		hasParts(t, types, "{t: 4}", "J", count)
		hasParts(t, types, "[{}]", "[J]", count+1)
		hasParts(t, types, "{}", "K", count+3)
		hasParts(t, types, "{i: {b: {a: null} a: null}}", "K", 5)
	}
}
