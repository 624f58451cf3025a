package vars_test

import (
	"strconv"
	"strings"
	"testing"

	"pergola/api"
	"pergola/query"
	"pergola/scope"
	"pergola/sdl"
	"pergola/shape"
	"pergola/typesys"
	"pergola/vars"
)

// chapter are the types of the chapter's examples.
const chapter = "type Query {f(i: Int n: Int! d: Int! = 1 l: [Int] m: [Int!]! p: P): Int o: Query} input P {n: Int! d: Int! = 2 l: [P]}"

// zoo has types of all kinds; places with marks and defaults of all kinds, of fields, of a directive and within an input type.
const zoo = `
	schema {query: Root mutation: Change subscription: Feed}
	type Root implements I {
		f(i: Int n: Int! d: Int! = 1 z: Int = null l: [Int] m: [Int!]! k: [[Int!]!] = [] e: E g: E! = A s: S t: [S!] p: P q: [P!]! = [] w: Float): Int
		self(b: Boolean! id: ID): Root i: I u: U x: Int
	}
	type Change {f(i: Int! b: Boolean): Int self: Change root: Root}
	type Feed {f(i: Int n: Int! = 3): Int self: Root}
	interface I {x: Int}
	union U = Root | Change
	enum E {A B} scalar S
	input P {n: Int! d: Int! = 2 i: Int z: Int = null l: [P!] k: [[Int]!]! = [] s: S b: Boolean e: [E!] = [A] p: P}
	directive @d(i: Int n: Int! = 3 p: P m: [Int!]) repeatable on QUERY | MUTATION | SUBSCRIPTION | FIELD | FRAGMENT_DEFINITION | FRAGMENT_SPREAD | INLINE_FRAGMENT | VARIABLE_DEFINITION
	extend input P {x: Float! id: ID! = 1}`

// read are the definitions of a source; of no source none.
func read(t testing.TB, src string) []api.SysDef {
	t.Helper()
	if src == "" {
		return nil
	}
	defs, fault := sdl.Parse([]byte(src), api.MostDepth)
	if fault.Kind != api.OK {
		t.Fatalf("%.500q is not read: %v", src, fault)
	}
	return defs
}

// sound is the type system of a source, which must have no fault.
func sound(t testing.TB, src string) *typesys.Types {
	t.Helper()
	defs := read(t, src)
	if faults := shape.Check(defs); len(faults) > 0 {
		t.Fatalf("%.2000q is not sound: %v", src, faults)
	}
	return typesys.Build(defs)
}

func parse(t testing.TB, src string) api.Document {
	t.Helper()
	doc, fault := query.Parse([]byte(src), api.MostDepth)
	if fault.Kind != api.OK {
		t.Fatalf("%.2000q is not read: %v", src, fault)
	}
	return doc
}

// kindText is a fault's kind as package api names it, without ErrVar.
func kindText(kind api.Errno) string {
	switch kind {
	case api.ErrVarTwice:
		return "Twice"
	case api.ErrVarType:
		return "Type"
	case api.ErrVarNone:
		return "None"
	case api.ErrVarUnused:
		return "Unused"
	case api.ErrVarPlace:
		return "Place"
	}
	return strconv.Itoa(int(kind))
}

// told are faults in their order: kinds with places, and a word for a path, which none has.
func told(faults []api.Fault) string {
	var texts []string
	for _, f := range faults {
		text := kindText(f.Kind)
		for _, p := range f.Pos {
			text += " " + strconv.Itoa(p.Line) + ":" + strconv.Itoa(p.Col)
		}
		if len(f.Path) > 0 {
			text += " path"
		}
		texts = append(texts, text)
	}
	return strings.Join(texts, "; ")
}

// rule is a call, and the kind of its faults.
type rule struct {
	name string
	kind api.Errno
	call func(*scope.Sheet) []api.Fault
}

// ruleCalls are the calls of one row of the chapter's table each.
func ruleCalls() []rule {
	return []rule{
		{"Names", api.ErrVarTwice, vars.Names},
		{"Types", api.ErrVarType, vars.Types},
		{"Defined", api.ErrVarNone, vars.Defined},
		{"Used", api.ErrVarUnused, vars.Used},
		{"Places", api.ErrVarPlace, vars.Places},
	}
}

// allCalls are those, and Check.
func allCalls() []rule {
	return append(ruleCalls(), rule{"Check", 0, vars.Check})
}

// row is a document, and what Check answers for it.
type row struct{ doc, want string }

// checkRows holds Check's answers against rows, and all calls against the model.
func checkRows(t *testing.T, types string, rows []row) {
	t.Helper()
	system := sound(t, types)
	for _, r := range rows {
		doc := parse(t, r.doc)
		if got := told(vars.Check(scope.Lay(system, doc))); got != r.want {
			t.Errorf("%s: got %q, want %q", r.doc, got, r.want)
		}
		hold(t, r.doc, system, doc)
	}
}
