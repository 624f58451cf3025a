package frags_test

import (
	"strconv"
	"strings"
	"testing"

	"pergola/api"
	"pergola/frags"
	"pergola/query"
	"pergola/scope"
	"pergola/sdl"
	"pergola/shape"
	"pergola/typesys"
)

// chapter are the types of the chapter's examples.
const chapter = "type Query {a: Int o: O i: I u: U} type O implements I {a: Int} type P {a: Int} interface I {a: Int} union U = O | P input N {a: Int}"

// zoo has types of all kinds; interfaces and unions that share objects, and such as share none.
const zoo = `
	schema {query: Root mutation: Change}
	type Root implements N {n: N m: M l: L u: U v: V w: W o: [O!]! p: P q: Q e: E s: S x: Int self: Root}
	type Change {o: O root: Root n: N}
	type O implements N & M {n: N x: Int self: O u: U}
	type P implements N {n: N x: Int q: Q u: [U]}
	type Q {n: N x: Int p: P}
	interface N {n: N}
	interface M implements N {n: N}
	interface L {x: Int}
	union U = O | P
	union V = Q | Root
	union W = Q
	enum E {A B} scalar S
	input In {a: Int b: In}
	extend union W = Change`

// read are the definitions of a source; of no source none.
func read(t testing.TB, src string) []api.SysDef {
	t.Helper()
	if src == "" {
		return nil
	}
	defs, fault := sdl.Parse([]byte(src), api.MostDepth)
	if fault.Kind != api.OK {
		t.Fatalf("%.500q is not read: %v", src, fault)
	}
	return defs
}

// sound is the type system of a source, which must have no fault.
func sound(t testing.TB, src string) *typesys.Types {
	t.Helper()
	defs := read(t, src)
	if faults := shape.Check(defs); len(faults) > 0 {
		t.Fatalf("%.2000q is not sound: %v", src, faults)
	}
	return typesys.Build(defs)
}

func parse(t testing.TB, src string) api.Document {
	t.Helper()
	doc, fault := query.Parse([]byte(src), api.MostDepth)
	if fault.Kind != api.OK {
		t.Fatalf("%.2000q is not read: %v", src, fault)
	}
	return doc
}

// kindText is a fault's kind as package api names it, without Err.
func kindText(kind api.Errno) string {
	switch kind {
	case api.ErrFragTwice:
		return "Twice"
	case api.ErrFragType:
		return "Type"
	case api.ErrFragKind:
		return "Kind"
	case api.ErrFragUnused:
		return "Unused"
	case api.ErrFragNone:
		return "None"
	case api.ErrFragRing:
		return "Ring"
	case api.ErrFragNever:
		return "Never"
	}
	return strconv.Itoa(int(kind))
}

// told are faults in their order: kinds with places, and a word for a path, which none has.
func told(faults []api.Fault) string {
	var texts []string
	for _, f := range faults {
		text := kindText(f.Kind)
		for _, p := range f.Pos {
			text += " " + strconv.Itoa(p.Line) + ":" + strconv.Itoa(p.Col)
		}
		if len(f.Path) > 0 {
			text += " path"
		}
		texts = append(texts, text)
	}
	return strings.Join(texts, "; ")
}

// row is a document, and what Check answers for it.
type row struct{ doc, want string }

// checkRows holds Check's answers against rows, and against the model.
func checkRows(t *testing.T, types string, rows []row) {
	t.Helper()
	system := sound(t, types)
	for _, r := range rows {
		doc := parse(t, r.doc)
		if got := told(frags.Check(scope.Lay(system, doc))); got != r.want {
			t.Errorf("%s: got %q, want %q", r.doc, got, r.want)
		}
		hold(t, r.doc, system, doc)
	}
}
