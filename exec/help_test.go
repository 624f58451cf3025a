package exec_test

import (
	"math"
	"reflect"
	"strconv"
	"strings"
	"testing"

	"pergola/api"
	"pergola/check"
	"pergola/coerce"
	"pergola/exec"
	"pergola/jsonin"
	"pergola/jsonout"
	"pergola/query"
	"pergola/sdl"
	"pergola/shape"
	"pergola/tree"
	"pergola/typesys"
)

// chapter are the types of the chapter's examples.
const chapter = `type Query { a: Int b: String! c: [Int!] d(x: Int = 3): Query e: [[Query!]!] u: U } type A { k: Int! } union U = A | Query`

// zoo has fields of types of all kinds. A field of one name has one type wherever it is, but in introspection types, so that fields may always merge that have one name and one list of arguments.
const zoo = `
	schema {query: Query mutation: Change subscription: Feed}
	interface I {a(x: Int = 1): Int b: String! i: I is: [I!] u: U}
	type Query implements I {
		a(x: Int = 1): Int b: String! i: I is: [I!] u: U
		q: Query! n(x: Int! p: P): [[Int!]] ns: [Int!]! s: S e: E! es: [E] f: Float id: ID! g: Boolean ss: [S]!
		t: __Type ts: [__Field!]
	}
	type O implements I {a(x: Int = 1): Int b: String! i: I is: [I!] u: U k: [Int]! q: Query! s: S}
	type V implements I {a(x: Int = 1): Int b: String! i: I is: [I!] u: U us: [[U!]!]! e: E! c: Int!}
	union U = O | V | Query
	type Change {a(x: Int = 1): Int b: String! q: Query! i: I ns: [Int!]! is: [I!]}
	type Feed {i: I a(x: Int = 1): Int b: String!}
	scalar S
	enum E {A B}
	input P {y: Int! z: [Int] = [1]}
	directive @uses(of: [Boolean] i: Int) on QUERY | MUTATION | SUBSCRIPTION | FRAGMENT_DEFINITION
	directive @many(if: Boolean) repeatable on FIELD | FRAGMENT_SPREAD | INLINE_FRAGMENT | FRAGMENT_DEFINITION`

// read are the definitions of a source.
func read(t testing.TB, src string) []api.SysDef {
	t.Helper()
	defs, fault := sdl.Parse([]byte(src), api.MostDepth)
	if fault.Kind != api.OK {
		t.Fatalf("%.500q is not read: %v", src, fault)
	}
	return defs
}

// sound is the type system of a source, which must have no fault.
func sound(t testing.TB, src string) *typesys.Types {
	t.Helper()
	defs := read(t, src)
	if faults := shape.Check(defs); len(faults) > 0 {
		t.Fatalf("%.2000q is not sound: %v", src, faults)
	}
	return typesys.Build(defs)
}

func parse(t testing.TB, src string) api.Document {
	t.Helper()
	doc, fault := query.Parse([]byte(src), api.MostDepth)
	if fault.Kind != api.OK {
		t.Fatalf("%.2000q is not read: %v", src, fault)
	}
	return doc
}

// valid is the document of a source, which must have no fault.
func valid(t testing.TB, types *typesys.Types, src string) api.Document {
	t.Helper()
	doc := parse(t, src)
	if faults := check.All(types, doc); len(faults) > 0 {
		t.Fatalf("%.2000q is not valid: %v", src, faults)
	}
	return doc
}

// json is a value out of JSON in which some strings stand for what JSON has no words for: "@T" and "@T:x" for handles of T, "?9" for a Kind 9, "#nan" and "#inf" for floats.
func json(t testing.TB, text string) api.Value {
	t.Helper()
	v, _, errno := jsonin.Read([]byte(text), api.MostDepth)
	if errno != api.OK {
		t.Fatalf("%.2000q is not read", text)
	}
	return dressed(v)
}

func dressed(v api.Value) api.Value {
	for i, item := range v.Items {
		v.Items[i] = dressed(item)
	}
	for i, member := range v.Fields {
		v.Fields[i].Value = dressed(member.Value)
	}
	switch {
	case strings.HasPrefix(v.Text, "@"):
		typ, own, _ := strings.Cut(v.Text[1:], ":")
		return handle(typ, own)
	case strings.HasPrefix(v.Text, "?"):
		kind, _ := strconv.Atoi(v.Text[1:])
		return api.Value{Kind: api.Kind(kind), Bool: true, Int: 7, Float: 7, Text: "seven", Type: "Query", Items: []api.Value{{}}, Fields: []api.Member{{}}}
	case v.Text == "#nan":
		return api.Value{Kind: api.KindFloat, Float: math.NaN()}
	case v.Text == "#inf":
		return api.Value{Kind: api.KindFloat, Float: math.Inf(-1)}
	}
	return v
}

func handle(typ, own string) api.Value {
	return api.Value{Kind: api.KindHandle, Type: typ, Text: own}
}

// variables are those of an operation, out of JSON.
func variables(t testing.TB, types *typesys.Types, doc api.Document, op int, given string) []api.Member {
	t.Helper()
	vars, faults := coerce.Variables(types, doc, op, json(t, given))
	if len(faults) > 0 {
		t.Fatalf("%s are not the variables of %v: %v", given, doc, faults)
	}
	return vars
}

// table are rows, each a line of a path, a type, a field, arguments and an outcome: a value, or ! for a failure.
func table(t testing.TB, lines ...string) []api.Entry {
	t.Helper()
	var rows []api.Entry
	for _, line := range lines {
		parts := strings.SplitN(line, " ", 5)
		row := api.Entry{Call: api.Call{Path: parts[0], Parent: parts[1], Field: parts[2], Args: parts[3]}}
		if parts[4] == "!" {
			row.Out = api.Outcome{Fail: true, Value: api.Value{Kind: api.KindInt, Int: 7}}
		} else {
			row.Out.Value = json(t, parts[4])
		}
		rows = append(rows, row)
	}
	return rows
}

// toldFaults are faults, each as its word, its path and its places.
func toldFaults(faults []api.Fault) string {
	var texts []string
	for _, f := range faults {
		text := api.Word(f.Kind) + " " + tree.PathText(f.Path)
		for _, p := range f.Pos {
			text += " " + strconv.Itoa(p.Line) + ":" + strconv.Itoa(p.Col)
		}
		texts = append(texts, text)
	}
	return strings.Join(texts, ", ")
}

// toldTrace are the paths of look-ups.
func toldTrace(trace []api.Call) string {
	var texts []string
	for _, c := range trace {
		texts = append(texts, c.Path)
	}
	return strings.Join(texts, " ")
}

func toldData(v api.Value) string {
	text, errno := jsonout.Write(v)
	if errno != api.OK {
		return "not to be written"
	}
	return string(text)
}

// told is all of a result.
func told(r api.Result) string {
	if r.Over {
		return "over " + toldData(r.Data) + strconv.Itoa(r.Nodes+len(r.Faults)+len(r.Trace))
	}
	return toldData(r.Data) + " | " + toldFaults(r.Faults) + " | " + toldTrace(r.Trace) + " | " + strconv.Itoa(r.Nodes)
}

// over is what is told where there were too many nodes.
const over = "over null0"

// row is a request over a schema, with its table, and the result as it is told.
type row struct {
	doc, given string
	table      []string
	want       string
}

// checkRows executes the rows' first operations, with room enough, with just enough, and with too little.
func checkRows(t *testing.T, schema string, rows []row) {
	t.Helper()
	types := sound(t, schema)
	for _, r := range rows {
		doc := valid(t, types, r.doc)
		given := r.given
		if given == "" {
			given = "{}"
		}
		vars, entries := variables(t, types, doc, 0, given), table(t, r.table...)
		out := exec.Run(types, doc, 0, vars, entries, api.MostNodes)
		if got := told(out); got != r.want {
			t.Errorf("%s with %s:\n got %s\nwant %s", r.doc, given, got, r.want)
			continue
		}
		if got := told(exec.Run(types, doc, 0, vars, entries, out.Nodes)); got != r.want {
			t.Errorf("%s with %s and just enough nodes: %s", r.doc, given, got)
		}
		for _, nodes := range []int{out.Nodes - 1, out.Nodes / 2, 0} {
			if got := told(exec.Run(types, doc, 0, vars, entries, nodes)); nodes >= 0 && nodes < out.Nodes && got != over {
				t.Errorf("%s with %s and %d nodes: %s", r.doc, given, nodes, got)
			}
		}
	}
}

// even is a thing in which lists of no elements are nil.
func even(thing any) any { return evened(reflect.ValueOf(thing)).Interface() }

func evened(v reflect.Value) reflect.Value {
	out := reflect.New(v.Type()).Elem()
	switch v.Kind() {
	case reflect.Struct:
		for i := range v.NumField() {
			out.Field(i).Set(evened(v.Field(i)))
		}
	case reflect.Slice:
		if v.Len() > 0 {
			out.Set(reflect.MakeSlice(v.Type(), v.Len(), v.Len()))
		}
		for i := range v.Len() {
			out.Index(i).Set(evened(v.Index(i)))
		}
	default:
		out.Set(v)
	}
	return out
}

func alike(t testing.TB, what string, got, want any) {
	t.Helper()
	if !reflect.DeepEqual(even(got), even(want)) {
		t.Errorf("%s: got %.2000v, want %.2000v", what, got, want)
	}
}

// numbered is a text for each number below n, in which each # is the number and each + the next one.
func numbered(n int, text string) string {
	var out strings.Builder
	for i := range n {
		out.WriteString(strings.NewReplacer("#", strconv.Itoa(i), "+", strconv.Itoa(i+1)).Replace(text))
	}
	return out.String()
}
