package coerce_test

import (
	"strings"
	"testing"

	"pergola/api"
	"pergola/check"
	"pergola/coerce"
)

// variableRow is a request's variables, and what Variables answers: a JSON object, or the faults' places and paths.
type variableRow struct{ given, want string }

func checkVariables(t *testing.T, types, src string, op int, rows []variableRow) {
	t.Helper()
	system, doc := sound(t, types), parse(t, src)
	if faults := check.All(system, doc); len(faults) > 0 {
		t.Fatalf("%s isn't valid: %v", src, faults)
	}
	for _, r := range rows {
		if got := variablesText(t, system, doc, op, value(t, r.given)); got != r.want {
			t.Errorf("%.200s of %.200s: got %.500s, want %.500s", r.given, src, got, r.want)
		}
	}
}

// P22.3: values, defaults, and what is missing.
func TestVariables(t *testing.T) {
	checkVariables(t, chapter, "query ($x: Int = 5 $y: Int! $i: I $r: R = {}) {q(x: $x y: $y i: $i r: $r)}", 0, []variableRow{
		{`{"y":1,"r":null,"w":0}`, `{"x":5,"y":1,"r":null}`},
		{`{"r":null,"y":2,"x":null,"i":{"a":1}}`, `{"x":null,"y":2,"i":{"a":1,"c":["A"],"d":4.0},"r":null}`},
		{`{"x":"1","i":{"a":1,"b":{"a":null}}}`, "1:8; 1:20; 1:29 /b/a; 1:35"},
		{`{"x":"1","y":2,"i":null,"r":null}`, "1:8"},
		{`{"y":2,"i":{"a":1,"x":1},"r":null}`, "1:29 /x"},
		{`{"y":2,"i":{"a":1,"c":["A","C"]},"r":null}`, "1:29 /c/1"},
		{`{"y":2,"i":{"b":{}},"r":null}`, "1:29 /a"},
		{`{"y":null,"r":{"r":null}}`, "1:20"},
		{`{"y":1,"r":{}}`, "1:35"},
		{`{"y":1}`, "1:35"},
		{`{}`, "1:20; 1:35"},
		{"null", "1:20; 1:35"},
		{"[1]", "1:20; 1:35"},
		{`"y"`, "1:20; 1:35"},
		{"7", "1:20; 1:35"},
	})
}

// P22.3: an operation's own variables alone, whichever its number is.
func TestVariablesOfOneOperation(t *testing.T) {
	const src = "query A ($y: Int!) {q(y: $y)} fragment F on Query {q(y: 1)} query B ($z: Int = 4 $y: Int! = 2) {q(z: $z y: $y) ...G} query C {...F} fragment G on Query {q(z: $z y: $y)}"
	for op, rows := range [][]variableRow{
		{{`{"y":1,"z":"x"}`, `{"y":1}`}, {`{"z":1}`, "1:10"}},
		{{`{"y":"x"}`, "{}"}},
		{{"{}", `{"z":4,"y":2}`}, {`{"y":1,"z":null}`, `{"z":null,"y":1}`}, {`{"y":null}`, "1:82"}, {`{"y":"x","z":"x"}`, "1:70; 1:82"}},
		{{`{"y":"x"}`, "{}"}},
		{{`{"y":"x"}`, "{}"}},
	} {
		checkVariables(t, chapter, src, op, rows)
	}
	for _, op := range []int{-1, 5, 1 << 40, -1 << 40} {
		if made, faults := coerce.Variables(sound(t, chapter), parse(t, src), op, value(t, `{"y":1}`)); len(made)+len(faults) > 0 {
			t.Error(op, made, faults)
		}
	}
}

// P22.3: the value of a name is that of the first member that bears it; and kinds outside the table, and fields that don't count.
func TestVariablesOddlyGiven(t *testing.T) {
	types := sound(t, chapter)
	doc := parse(t, "query ($x: Int $y: Int!) {q(x: $x y: $y)}")
	x, y, bad := api.Member{Name: "x", Value: whole(1)}, api.Member{Name: "y", Value: whole(2)}, api.Member{Name: "y", Value: text("x")}
	odd := api.Member{Name: "x", Value: api.Value{Kind: 99, Int: 1}}
	for want, given := range map[string]api.Value{
		`{"x":1,"y":2}`:    object([]api.Member{y, bad, x, bad}),
		"1:16":             object([]api.Member{bad, y, x}),
		`{"y":2}`:          {Kind: api.KindObject, Fields: []api.Member{y}, Items: []api.Value{whole(1)}, Text: "x"},
		`{"x":null,"y":2}`: object([]api.Member{odd, x, y}),
	} {
		if got := variablesText(t, types, doc, 0, given); got != want {
			t.Errorf("got %s, want %s", got, want)
		}
	}
	for _, kind := range []api.Kind{-1, api.KindNull, api.KindString, api.KindList, api.KindHandle, 99} {
		if got := variablesText(t, types, doc, 0, api.Value{Kind: kind, Fields: []api.Member{x, y}}); got != "1:16" {
			t.Errorf("kind %d: %s", kind, got)
		}
	}
}

// P22.3: faults are a list of DOC.md's: sorted by their places.
func TestVariablesFaultsAreSorted(t *testing.T) {
	var src strings.Builder
	src.WriteString("query (")
	names := []string{"a", "b", "c", "d", "e"}
	for i, name := range names {
		src.WriteString(strings.Repeat("\n", i%2) + strings.Repeat(" ", 9-i) + "$" + name + ": [Int!]!")
	}
	src.WriteString(") {" + strings.Join([]string{"f(x: $a)", "g: f(x: $b)", "h: f(x: $c)", "i: f(x: $d)", "j: f(x: $e)"}, " ") + "}")
	checkVariables(t, "type Query {f(x: [Int!]): Int}", src.String(), 0, []variableRow{
		{"{}", "1:17; 2:9; 2:27; 3:7; 3:23"},
		{`{"e":[1,"x"],"b":[null],"a":"x","d":[],"c":[[1]]}`, "1:17; 2:9 /0; 2:27 /0; 3:23 /1"},
	})
}

// P22.3: a variable's own value and its default each have room for themselves.
func TestVariablesMostParts(t *testing.T) {
	nulls := "[" + strings.Repeat("null ", 4095) + "]"
	system := sound(t, "type Query {f(x: [Int]): Int}")
	doc := parse(t, "query ($a: [Int] = "+nulls+" $b: [Int] $c: [Int]) {f(x: $a) g: f(x: $b) h: f(x: $c)}")
	given := func(b, c int) api.Value {
		return object([]api.Member{{Name: "b", Value: many(b)}, {Name: "c", Value: many(c)}})
	}
	made, faults := coerce.Variables(system, doc, 0, given(4095, 4095))
	if len(faults) > 0 || len(made) != 3 || len(made[0].Value.Items) != 4095 || len(made[1].Value.Items) != 4095 || len(made[2].Value.Items) != 4095 {
		t.Error(len(made), faults)
	}
	if made, faults = coerce.Variables(system, doc, 0, given(4096, 4095)); len(made) > 0 || len(faults) != 1 || len(faults[0].Path) > 0 {
		t.Error(len(made), faults)
	}
	over := "[" + strings.Repeat("null ", 4096) + "]"
	checkVariables(t, "type Query {f(x: [Int]): Int}", "query ($a: [Int] = "+over+" $b: Int = 3) {f(x: $a) g: f(x: [$b])}", 0, []variableRow{
		{"{}", "1:8"},
		{`{"a":[1]}`, `{"a":[1],"b":3}`},
		{`{"a":null}`, `{"a":null,"b":3}`},
	})
}
