package typesys_test

import (
	"fmt"
	"reflect"
	"strings"
	"testing"

	"pergola/api"
	"pergola/sdl"
	"pergola/typesys"
)

// system is what a type system is asked: the program's own, and the model's.
type system interface {
	Schema() api.SysDef
	Root(op api.DefKind) string
	Names() []string
	Type(name string) (api.SysDef, bool)
	Directives() []string
	Directive(name string) (api.SysDef, bool)
	Field(typ, field string) (api.FieldDef, bool)
	Possible(name string) []string
	Meet(a, b string) bool
	Within(a, b string) bool
	Fits(a, b api.TypeRef) bool
	Input(name string) bool
	Output(name string) bool
}

// read is what a source is read as; of no source no definitions.
func read(t testing.TB, src string) []api.SysDef {
	t.Helper()
	if src == "" {
		return nil
	}
	defs, fault := sdl.Parse([]byte(src), api.MostDepth)
	if fault.Kind != api.OK {
		t.Fatalf("%q is not read: %v", src, fault)
	}
	return defs
}

func build(t testing.TB, src string) *typesys.Types {
	t.Helper()
	return typesys.Build(read(t, src))
}

// one is the one definition of a source, without its places.
func one(t testing.TB, src string) api.SysDef {
	t.Helper()
	defs := read(t, src)
	if len(defs) != 1 {
		t.Fatalf("%q has %d definitions", src, len(defs))
	}
	return unplaced(defs[0])
}

func ref(name, wrap string) api.TypeRef { return api.TypeRef{Name: name, Wrap: wrap} }

func at(line, col int) api.Pos { return api.Pos{Line: line, Col: col} }

// alike holds two things against each other; a list of no elements may be nil or empty.
func alike(t testing.TB, what string, got, want any) {
	t.Helper()
	if !reflect.DeepEqual(even(got), even(want)) {
		t.Errorf("%s: got\n%.2000v\nwant\n%.2000v", what, fmt.Sprint(got), fmt.Sprint(want))
	}
}

func told(names []string) string { return strings.Join(names, " ") }

// even is a deep copy in which lists of no elements are nil.
func even(thing any) any { return remade(thing, nil) }

// unplaced is a deep copy in which all places are zero, and lists of no elements nil.
func unplaced[T any](thing T) T { return remade(thing, &api.Pos{}).(T) }

func remade(thing any, pos *api.Pos) any {
	if thing == nil {
		return nil
	}
	out := reflect.New(reflect.TypeOf(thing)).Elem()
	layCopy(out, reflect.ValueOf(thing), pos)
	return out.Interface()
}

func layCopy(to, from reflect.Value, pos *api.Pos) {
	switch {
	case pos != nil && from.Type() == reflect.TypeFor[api.Pos]():
		to.Set(reflect.ValueOf(*pos))
	case from.Kind() == reflect.Struct:
		for i := range from.NumField() {
			layCopy(to.Field(i), from.Field(i), pos)
		}
	case from.Kind() == reflect.Slice:
		if from.Len() == 0 {
			return
		}
		to.Set(reflect.MakeSlice(from.Type(), from.Len(), from.Len()))
		for i := range from.Len() {
			layCopy(to.Index(i), from.Index(i), pos)
		}
	default:
		to.Set(from)
	}
}
