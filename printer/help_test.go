package printer_test

import (
	"reflect"
	"testing"

	"pergola/api"
	"pergola/parts"
	"pergola/printer"
	"pergola/query"
	"pergola/sdl"
)

// deep is the depth at which every right source is read.
const deep = api.MostDepth

// kind is one of the four things that are printed: how its source is read, and how it is printed.
type kind[T any] struct {
	name  string
	read  func(src []byte, depth int) (T, api.Fault)
	print func(T) string
}

var (
	documents = kind[api.Document]{"Document", query.Parse, printer.Document}
	systems   = kind[[]api.SysDef]{"System", sdl.Parse, printer.System}
	literals  = kind[api.Lit]{"Lit", readLit, printer.Lit}
	types     = kind[api.TypeRef]{"Type", parts.ReadType, printer.Type}
)

func readLit(src []byte, depth int) (api.Lit, api.Fault) {
	return parts.ReadLit(src, false, depth)
}

// parsed is what a source is read as.
func (k kind[T]) parsed(t *testing.T, src string, depth int) T {
	t.Helper()
	thing, fault := k.read([]byte(src), depth)
	if fault.Kind != api.OK {
		t.Fatalf("%s: %q is not read at depth %d: %v", k.name, src, depth, fault)
	}
	return thing
}

// want holds the text of what a source is read as against the text that is wanted, and that text against the promises.
func (k kind[T]) want(t *testing.T, src, text string) {
	t.Helper()
	thing := k.parsed(t, src, deep)
	got := k.print(thing)
	if got != text {
		t.Errorf("%s of %s is\n%s\nand not\n%s", k.name, src, got, text)
		return
	}
	k.holds(t, src, text)
}

// holds: at each depth the text is read just if its source is, as the same but for places (P11.2), and it is printed alike again (P11.3).
func (k kind[T]) holds(t *testing.T, src, text string) {
	t.Helper()
	read := 0
	for depth := -1; read < 3; depth++ {
		first, fault := k.read([]byte(src), depth)
		again, other := k.read([]byte(text), depth)
		if fault.Kind != other.Kind {
			t.Fatalf("%s, depth %d: %q is read with the fault %v, and its text %q with %v", k.name, depth, src, fault, text, other)
		}
		if fault.Kind != api.OK {
			if depth == deep {
				t.Fatalf("%s: %q is not read: %v", k.name, src, fault)
			}
			continue
		}
		read++
		if !reflect.DeepEqual(placed(first, api.Pos{}), placed(again, api.Pos{})) {
			t.Fatalf("%s: %q is read as\n%v\nand its text %q as\n%v", k.name, src, first, text, again)
		}
		if printed := k.print(again); printed != text {
			t.Fatalf("%s: what is printed as\n%s\nis printed again as\n%s", k.name, text, printed)
		}
	}
}

// placed is a deep copy in which all places are pos, and lists of no elements are nil.
func placed[T any](thing T, pos api.Pos) T {
	out := reflect.New(reflect.TypeFor[T]()).Elem()
	layCopy(out, reflect.ValueOf(&thing).Elem(), pos)
	return out.Interface().(T)
}

func layCopy(to, from reflect.Value, pos api.Pos) {
	switch {
	case from.Type() == reflect.TypeFor[api.Pos]():
		to.Set(reflect.ValueOf(pos))
	case from.Kind() == reflect.Struct:
		for i := range from.NumField() {
			layCopy(to.Field(i), from.Field(i), pos)
		}
	case from.Kind() == reflect.Slice:
		if from.Len() == 0 {
			return
		}
		to.Set(reflect.MakeSlice(from.Type(), from.Len(), from.Len()))
		for i := range from.Len() {
			layCopy(to.Index(i), from.Index(i), pos)
		}
	default:
		to.Set(from)
	}
}

func same(t *testing.T, what, got, want string) {
	t.Helper()
	if got != want {
		t.Errorf("%s: got %q, want %q", what, got, want)
	}
}
