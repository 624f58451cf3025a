package shape_test

import (
	"cmp"
	"reflect"
	"runtime"
	"slices"
	"sync"
	"testing"

	"pergola/api"
	"pergola/shape"
	"pergola/typesys"
)

// rich has faults of all kinds but ErrNoQuery, ErrExtendNone of a schema and the like, and several places in many of them.
const rich = `extend schema@d@d{mutation:A query:X}
schema@d(a:[1 {b:[2] b:3}] a:2){query:A subscription:A}
schema{query:A}
extend type A implements I&J&A{b(x:Int y:Int! x:ID):Nope}
type A implements I&I&X@nope@d@d(a:{} z:1){a(x:ID):ID __a:N a:Int c(x:A={a:[1 {z:1 z:2}]}):Int}
type A enum A{A}
interface I implements J&K{a(x:Int!):Int b(x:ID z:Int):Int d:Int}
interface J{a:Int}interface K{a:Int}
union U=A|B|A|U extend union U=A
enum E{A A B@deprecated@deprecated(reason:1)}extend enum E{A}enum F
input N{n:M! a:Int=A e:[E!]=[A C null] a:A o:M={n:1 p:2 p:3}}
input M{n:N!}
directive@d(a:N! a:Int x:Int@d)on SCHEMA|OBJECT directive@d on ENUM directive@skip on ENUM
scalar Int extend scalar Int@d extend enum N@d extend type Z@d`

// eachList goes through all lists of a thing, those inside of a list ahead of it.
func eachList(v reflect.Value, do func(list reflect.Value)) {
	switch v.Kind() {
	case reflect.Struct:
		for i := range v.NumField() {
			eachList(v.Field(i), do)
		}
	case reflect.Slice:
		for i := range v.Len() {
			eachList(v.Index(i), do)
		}
		do(v)
	}
}

// roomy is a deep copy in which each list has room to spare, and something in it.
func roomy(v reflect.Value) reflect.Value {
	out := reflect.New(v.Type()).Elem()
	switch v.Kind() {
	case reflect.Struct:
		for i := range v.NumField() {
			out.Field(i).Set(roomy(v.Field(i)))
		}
	case reflect.Slice:
		out.Set(reflect.MakeSlice(v.Type(), v.Len()+2, v.Len()+2))
		for i := range v.Len() {
			out.Index(i).Set(roomy(v.Index(i)))
		}
		out.Index(v.Len()).Set(marked(v.Type().Elem()))
		out.Set(out.Slice(0, v.Len()))
	default:
		out.Set(v)
	}
	return out
}

// marked is an element all of whose texts and numbers are set.
func marked(t reflect.Type) reflect.Value {
	out := reflect.New(t).Elem()
	switch t.Kind() {
	case reflect.Struct:
		for i := range t.NumField() {
			out.Field(i).Set(marked(t.Field(i).Type))
		}
	case reflect.String:
		out.SetString("spare")
	case reflect.Int:
		out.SetInt(77)
	}
	return out
}

// whole is a deep copy of a thing in which the lists' spare room counts.
func whole(v reflect.Value) reflect.Value {
	out := reflect.New(v.Type()).Elem()
	switch v.Kind() {
	case reflect.Struct:
		for i := range v.NumField() {
			out.Field(i).Set(whole(v.Field(i)))
		}
	case reflect.Slice:
		full := v.Slice(0, v.Cap())
		out.Set(reflect.MakeSlice(v.Type(), full.Len(), full.Len()))
		for i := range full.Len() {
			out.Index(i).Set(whole(full.Index(i)))
		}
	default:
		out.Set(v)
	}
	return out
}

// overwrite writes over all lists of a thing, their spare room too.
func overwrite(thing any) {
	eachList(reflect.ValueOf(thing), func(list reflect.Value) {
		full := list.Slice(0, list.Cap())
		for i := range full.Len() {
			full.Index(i).Set(marked(full.Type().Elem()))
		}
	})
}

// The source of these tests has faults of nearly all kinds.
func TestRichIsRich(t *testing.T) {
	all := holdAll(t, rich)
	kinds := map[api.Errno]int{}
	for _, f := range all[len(all)-1] {
		kinds[f.Kind] += len(f.Pos)
	}
	for kind, name := range kindNames {
		if kind != api.ErrNoQuery && kinds[kind] == 0 {
			t.Error("no fault of", name)
		}
	}
}

// R3: what is handed in is left as it is, spare room too, and may be written over afterwards.
func TestDefinitionsAreLeft(t *testing.T) {
	want := even(answers(read(t, rich)))
	defs := roomy(reflect.ValueOf(read(t, rich))).Interface().([]api.SysDef)
	before := whole(reflect.ValueOf(defs)).Interface()
	types := typesys.Build(defs)
	got := answers(defs)
	if !reflect.DeepEqual(whole(reflect.ValueOf(defs)).Interface(), before) {
		t.Error("the definitions were changed")
	}
	overwrite(defs)
	alike(t, "behind the calls", got, want)
	for i, c := range calls {
		alike(t, c.name, c.call(types), want.([][]api.Fault)[i+1])
	}
	defs = read(t, rich)
	overwrite(answers(defs))
	alike(t, "the definitions", defs, read(t, rich))
}

// answersOf is what all calls answer of definitions and of a type system that is made of them once.
func answersOf(defs []api.SysDef, types *typesys.Types) [][]api.Fault {
	out := [][]api.Fault{shape.Assembly(defs), shape.Check(defs)}
	for _, c := range calls {
		out = append(out, c.call(types))
	}
	return out
}

// R3: whatever is done to an answer, no other has it, nor the type system.
func TestAnswersAreNew(t *testing.T) {
	defs := read(t, rich)
	types := typesys.Build(defs)
	first, second := answersOf(defs, types), answersOf(defs, types)
	want := even(first)
	overwrite(first)
	alike(t, "an earlier answer", second, want)
	alike(t, "a later answer", answersOf(defs, types), want)
}

// room is the memory of a list, spare room too.
type room struct {
	from, to uintptr
	kind     string
}

func rooms(thing any) []room {
	var out []room
	eachList(reflect.ValueOf(thing), func(list reflect.Value) {
		if size := uintptr(list.Cap()) * list.Type().Elem().Size(); size > 0 {
			out = append(out, room{list.Pointer(), list.Pointer() + size, list.Type().String()})
		}
	})
	return out
}

// R3: no two lists share memory, of one answer, of two, or of an answer and the definitions.
func TestListsShareNone(t *testing.T) {
	defs := read(t, rich)
	types := typesys.Build(defs)
	one, two := answersOf(defs, types), answersOf(defs, types)
	all := slices.Concat(rooms(defs), rooms(one), rooms(two))
	slices.SortFunc(all, func(a, b room) int { return cmp.Compare(a.from, b.from) })
	if len(all) < 250 {
		t.Fatal("lists:", len(all))
	}
	for i := 1; i < len(all); i++ {
		if all[i-1].to > all[i].from {
			t.Error("shared:", all[i-1].kind, "and", all[i].kind)
		}
	}
	runtime.KeepAlive([]any{defs, one, two})
}

// R2: several that ask at one time, and write over what they are answered, are answered alike.
func TestAskedAtOneTime(t *testing.T) {
	defs := read(t, rich)
	types := typesys.Build(defs)
	want := even(answersOf(defs, types))
	var wait sync.WaitGroup
	wrong := make([]bool, 16)
	for i := range wrong {
		wait.Go(func() {
			for range 20 {
				got := answersOf(defs, types)
				wrong[i] = wrong[i] || !reflect.DeepEqual(even(got), want)
				overwrite(got)
			}
		})
	}
	wait.Wait()
	if slices.Contains(wrong, true) {
		t.Error("answers were unlike")
	}
}
