package fields_test

import (
	"strconv"
	"strings"
	"testing"

	"pergola/api"
	"pergola/fields"
	"pergola/query"
	"pergola/scope"
	"pergola/sdl"
	"pergola/shape"
	"pergola/typesys"
)

// chapter are the types of the chapter's examples.
const chapter = "type Query {a: Int o(x: Int! y: I): O s: [O!]} type O {a: Int e: E} enum E {A} input I {p: Int! q: Int} type Subscription {t: Int u: Int} directive @d(k: Int) on FIELD directive @r repeatable on FIELD | QUERY"

// zoo has types of all kinds, fields of all kinds of types, and arguments of all kinds.
const zoo = `
	schema {query: Root mutation: Change subscription: Feed}
	type Root implements N {
		n(k: Int): N! o: O oo: [[O!]!]! u: [U] e: E! ee: [[E]] s: S i: [Int!] self: Root
		f(x: Int! y: P z: [Int!]! = [1] w: S): O
		g(a: Int! b: Int! c: Int! = 1 d: [E!]!): Int
	}
	type Change {o: O m(p: P!): Change!}
	type Feed {t(x: Int!): Int o: O v: [U!]}
	type O implements N {a(e: E, l: [[P!]]): Int n(k: Int, extra: ID): N u: U}
	type V {v: V}
	interface N {n(k: Int): N}
	union U = O | V
	enum E {A B} scalar S
	input P {a: P b: [E!] = A c: Int! d: S e: [P!]}
	directive @all(x: Int y: [P!]! = {c: 1}) on QUERY | MUTATION | SUBSCRIPTION | FRAGMENT_DEFINITION | VARIABLE_DEFINITION | FIELD | FRAGMENT_SPREAD | INLINE_FRAGMENT
	directive @many(x: Int! y: E!) repeatable on QUERY | MUTATION | SUBSCRIPTION | FRAGMENT_DEFINITION | VARIABLE_DEFINITION | FIELD | FRAGMENT_SPREAD | INLINE_FRAGMENT
	directive @query on QUERY directive @mutation on MUTATION directive @subscription on SUBSCRIPTION directive @fragment on FRAGMENT_DEFINITION
	directive @variable on VARIABLE_DEFINITION directive @field on FIELD directive @spread on FRAGMENT_SPREAD directive @inline on INLINE_FRAGMENT
	directive @system repeatable on SCHEMA | SCALAR | OBJECT | FIELD_DEFINITION | ARGUMENT_DEFINITION | INTERFACE | UNION | ENUM | ENUM_VALUE | INPUT_OBJECT | INPUT_FIELD_DEFINITION`

// read are the definitions of a source; of no source none.
func read(t testing.TB, src string) []api.SysDef {
	t.Helper()
	if src == "" {
		return nil
	}
	defs, fault := sdl.Parse([]byte(src), api.MostDepth)
	if fault.Kind != api.OK {
		t.Fatalf("%.500q is not read: %v", src, fault)
	}
	return defs
}

// sound is the type system of a source, which must have no fault.
func sound(t testing.TB, src string) *typesys.Types {
	t.Helper()
	defs := read(t, src)
	if faults := shape.Check(defs); len(faults) > 0 {
		t.Fatalf("%.2000q is not sound: %v", src, faults)
	}
	return typesys.Build(defs)
}

func parse(t testing.TB, src string) api.Document {
	t.Helper()
	doc, fault := query.Parse([]byte(src), api.MostDepth)
	if fault.Kind != api.OK {
		t.Fatalf("%.2000q is not read: %v", src, fault)
	}
	return doc
}

// call is one of the calls of the package.
type call int

const (
	operations call = iota
	selections
	arguments
	values
	directives
	check
)

func (c call) of(s *scope.Sheet) []api.Fault {
	return []func(*scope.Sheet) []api.Fault{fields.Operations, fields.Selections, fields.Arguments, fields.Values, fields.Directives, fields.Check}[c](s)
}

func (c call) String() string {
	return []string{"Operations", "Selections", "Arguments", "Values", "Directives", "Check"}[c]
}

func allCalls() []call {
	return []call{operations, selections, arguments, values, directives, check}
}

// kindText is a fault's kind as package api names it, without Err.
func kindText(kind api.Errno) string {
	switch kind {
	case api.ErrOpTwice:
		return "OpTwice"
	case api.ErrOpAlone:
		return "OpAlone"
	case api.ErrOpSingle:
		return "OpSingle"
	case api.ErrOpRoot:
		return "OpRoot"
	case api.ErrFieldNone:
		return "FieldNone"
	case api.ErrLeafSels:
		return "LeafSels"
	case api.ErrNoSels:
		return "NoSels"
	case api.ErrArgNone:
		return "ArgNone"
	case api.ErrArgSame:
		return "ArgSame"
	case api.ErrArgMissing:
		return "ArgMissing"
	case api.ErrValue:
		return "Value"
	case api.ErrInFieldNone:
		return "InFieldNone"
	case api.ErrInFieldSame:
		return "InFieldSame"
	case api.ErrInFieldMissing:
		return "InFieldMissing"
	case api.ErrDirNone:
		return "DirNone"
	case api.ErrDirPlace:
		return "DirPlace"
	case api.ErrDirSame:
		return "DirSame"
	}
	return strconv.Itoa(int(kind))
}

// told are faults in their order: kinds with places, and a word for a path, which none has.
func told(faults []api.Fault) string {
	var texts []string
	for _, f := range faults {
		text := kindText(f.Kind)
		for _, p := range f.Pos {
			text += " " + strconv.Itoa(p.Line) + ":" + strconv.Itoa(p.Col)
		}
		if len(f.Path) > 0 {
			text += " path"
		}
		texts = append(texts, text)
	}
	return strings.Join(texts, "; ")
}

// row is a document, and what a call answers for it.
type row struct{ doc, want string }

// checkRows holds a call's answers against rows, and all calls' answers against the model.
func checkRows(t *testing.T, types string, c call, rows []row) {
	t.Helper()
	system := sound(t, types)
	for _, r := range rows {
		doc := parse(t, r.doc)
		if got := told(c.of(scope.Lay(system, doc))); got != r.want {
			t.Errorf("%v of %s: got %q, want %q", c, r.doc, got, r.want)
		}
		hold(t, r.doc, system, doc)
	}
}
