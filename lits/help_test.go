package lits_test

import (
	"fmt"
	"reflect"
	"strings"
	"testing"

	"pergola/api"
	"pergola/jsonout"
	"pergola/lits"
	"pergola/parts"
	"pergola/sdl"
	"pergola/typesys"
)

// chapter are the types of the chapter's examples.
const chapter = "enum E {A B} scalar S input I {a: Int! b: I c: [E!] = [A] d: Int = 4} type T {x: Int} input R {r: R = {}}"

// build is the type system of a source; of no source that of no definitions.
func build(t testing.TB, src string) *typesys.Types {
	t.Helper()
	return typesys.Build(read(t, src))
}

func read(t testing.TB, src string) []api.SysDef {
	t.Helper()
	if src == "" {
		return nil
	}
	defs, fault := sdl.Parse([]byte(src), api.MostDepth)
	if fault.Kind != api.OK {
		t.Fatalf("%.500q is not read: %v", src, fault)
	}
	return defs
}

func lit(t testing.TB, src string) api.Lit {
	t.Helper()
	v, fault := parts.ReadLit([]byte(src), false, api.MostDepth)
	if fault.Kind != api.OK {
		t.Fatalf("%.500q is not read: %v", src, fault)
	}
	return v
}

// ref is the reference that a text says; of no text the zero one.
func ref(t testing.TB, src string) api.TypeRef {
	t.Helper()
	if src == "" {
		return api.TypeRef{}
	}
	r, fault := parts.ReadType([]byte(src), api.MostDepth)
	if fault.Kind != api.OK {
		t.Fatalf("%q is not read: %v", src, fault)
	}
	return r
}

// told are faults as a text: kinds with their places.
func told(faults []api.Fault) string {
	var all []string
	for _, f := range faults {
		text := kindText(f.Kind)
		for _, pos := range f.Pos {
			text += fmt.Sprintf(" %d:%d", pos.Line, pos.Col)
		}
		if len(f.Path) > 0 {
			text += fmt.Sprint(" path ", f.Path)
		}
		all = append(all, text)
	}
	return strings.Join(all, "; ")
}

func kindText(kind api.Errno) string {
	switch kind {
	case api.ErrValue:
		return "value"
	case api.ErrInFieldNone:
		return "none"
	case api.ErrInFieldSame:
		return "same"
	case api.ErrInFieldMissing:
		return "missing"
	}
	return fmt.Sprint("kind ", int(kind))
}

// written is a value as canonical JSON, or no text where there is none.
func written(t testing.TB, v api.Value, ok bool) string {
	t.Helper()
	if !ok {
		if !reflect.DeepEqual(v, api.Value{}) {
			t.Errorf("a value beside false: %v", v)
		}
		return ""
	}
	text, errno := jsonout.Write(v)
	if errno != api.OK {
		t.Fatalf("%v is not written: %v", v, errno)
	}
	return string(text)
}

func checkText(t testing.TB, types *typesys.Types, v, want string) string {
	t.Helper()
	return told(lits.Check(types, lit(t, v), ref(t, want)))
}

func constText(t testing.TB, types *typesys.Types, v, want string) string {
	t.Helper()
	value, ok := lits.Const(types, lit(t, v), ref(t, want))
	return written(t, value, ok)
}

// row is a literal at a type, its faults and its value, no text if it has none.
type row struct {
	lit, want, faults, value string
}

func checkRows(t *testing.T, types *typesys.Types, rows []row) {
	t.Helper()
	for _, r := range rows {
		if got := checkText(t, types, r.lit, r.want); got != r.faults {
			t.Errorf("Check of %.200q at %q: got %q, want %q", r.lit, r.want, got, r.faults)
		}
		if got := constText(t, types, r.lit, r.want); got != r.value {
			t.Errorf("Const of %.200q at %q: got %.500s, want %.500s", r.lit, r.want, got, r.value)
		}
	}
}

// alike holds two things against each other; a list of no elements may be nil or empty.
func alike(t testing.TB, what string, got, want any) {
	t.Helper()
	if !reflect.DeepEqual(even(got), even(want)) {
		t.Errorf("%s: got\n%.2000v\nwant\n%.2000v", what, fmt.Sprint(got), fmt.Sprint(want))
	}
}

// even is a deep copy in which lists of no elements are nil.
func even(thing any) any {
	out := reflect.New(reflect.TypeOf(thing)).Elem()
	layCopy(out, reflect.ValueOf(thing))
	return out.Interface()
}

func layCopy(to, from reflect.Value) {
	switch from.Kind() {
	case reflect.Struct:
		for i := range from.NumField() {
			layCopy(to.Field(i), from.Field(i))
		}
	case reflect.Slice:
		if from.Len() == 0 {
			return
		}
		to.Set(reflect.MakeSlice(from.Type(), from.Len(), from.Len()))
		for i := range from.Len() {
			layCopy(to.Index(i), from.Index(i))
		}
	default:
		to.Set(from)
	}
}
