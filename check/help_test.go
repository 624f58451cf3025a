package check_test

import (
	"strconv"
	"strings"
	"testing"

	"pergola/api"
	"pergola/check"
	"pergola/query"
	"pergola/sdl"
	"pergola/shape"
	"pergola/typesys"
)

// zoo has types of all kinds, and no root of mutations.
const zoo = `
	schema {query: Query subscription: Feed}
	type Query implements I {a: Int f(i: Int n: Int! p: P): Int q: Query i: I u: U o: Other}
	type Other implements I {a: Int s: String}
	type Apart {a: String}
	type Feed {a: Int b: Int q: Query}
	interface I {a: Int}
	union U = Query | Other
	enum E {A B}
	scalar S
	input P {n: Int! p: P s: S e: E}
	directive @one(k: Int!) on FIELD | QUERY
	directive @many repeatable on FIELD | FRAGMENT_SPREAD`

// read are the definitions of a source.
func read(t testing.TB, src string) []api.SysDef {
	t.Helper()
	defs, fault := sdl.Parse([]byte(src), api.MostDepth)
	if fault.Kind != api.OK {
		t.Fatalf("%.500q is not read: %v", src, fault)
	}
	return defs
}

// sound is the type system of a source, which must have no fault.
func sound(t testing.TB, src string) *typesys.Types {
	t.Helper()
	defs := read(t, src)
	if faults := shape.Check(defs); len(faults) > 0 {
		t.Fatalf("%.2000q is not sound: %v", src, faults)
	}
	return typesys.Build(defs)
}

func parse(t testing.TB, src string) api.Document {
	t.Helper()
	doc, fault := query.Parse([]byte(src), api.MostDepth)
	if fault.Kind != api.OK {
		t.Fatalf("%.2000q is not read: %v", src, fault)
	}
	return doc
}

// kindNames are those of the kinds from ErrOpTwice to ErrVarPlace, without Err.
const kindNames = "OpTwice OpAlone OpSingle OpRoot FieldNone Overlap LeafSels NoSels ArgNone ArgSame ArgMissing " +
	"FragTwice FragType FragKind FragUnused FragNone FragRing FragNever Value InFieldNone InFieldSame InFieldMissing " +
	"DirNone DirPlace DirSame VarTwice VarType VarNone VarUnused VarPlace"

func kindText(kind api.Errno) string {
	if kind < api.ErrOpTwice || kind > api.ErrVarPlace {
		return strconv.Itoa(int(kind))
	}
	return strings.Fields(kindNames)[kind-api.ErrOpTwice]
}

func placeText(p api.Pos) string {
	return strconv.Itoa(p.Line) + ":" + strconv.Itoa(p.Col)
}

// told are faults in their order: kinds with places, and a word for a path, which none has.
func told(faults []api.Fault) string {
	var texts []string
	for _, f := range faults {
		text := kindText(f.Kind)
		for _, p := range f.Pos {
			text += " " + placeText(p)
		}
		if len(f.Path) > 0 {
			text += " path"
		}
		texts = append(texts, text)
	}
	return strings.Join(texts, "; ")
}

func depthText(depth int, ok bool) string {
	switch {
	case ok:
		return strconv.Itoa(depth)
	case depth != 0:
		return "- beside " + strconv.Itoa(depth)
	}
	return "-"
}

// depths are those of all definitions; - of one that has none.
func depths(doc api.Document) string {
	var texts []string
	for def := range doc.Defs {
		texts = append(texts, depthText(check.Deep(doc, def)))
	}
	return strings.Join(texts, " ")
}

// numbered is a text for each number below n, in which each # is the number and each + the next one.
func numbered(n int, text string) string {
	var out strings.Builder
	for i := range n {
		out.WriteString(strings.NewReplacer("#", strconv.Itoa(i), "+", strconv.Itoa(i+1)).Replace(text))
	}
	return out.String()
}

// row is a document, and what is answered for it.
type row struct{ doc, want string }
