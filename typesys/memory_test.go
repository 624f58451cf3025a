package typesys_test

import (
	"cmp"
	"reflect"
	"runtime"
	"slices"
	"strings"
	"sync"
	"testing"

	"pergola/api"
	"pergola/typesys"
)

const rich = `"n" schema@a(x:[1 2 3])@b{query:A mutation:B}
extend schema@c(x:{y:[1]}){subscription:A}
"n" type A implements I & J@a(x:[1 {y:[2]}]){
	a(b:[B!]=[1 [2 {b:[3] c:{d:"s"}}]]@a(x:[1])@b c:D={e:1 f:[2]}):A@a(x:[1])@b
	"m" b:I
}
extend type A implements K@c(x:[1]){c(d:D=[1]):D}
type B implements I
interface I implements J & K@a{a:A b:B}
interface J interface K
union U@a(x:[1])=A|B|A
extend union U@b=B|A
enum E@a{a@a(x:[1])@b "l"b}
extend enum E@b{c@a(x:[1])}
input N@a{a:[A]=[[] [1] [1 2]]@a(x:[1]) b:B={c:[1]}}
extend input N@b{c:C=[1]}
directive @d(a:A=[1 2]@a(x:[1])@b b:B)repeatable on FIELD|QUERY
extend scalar S@a(x:[1])@b
scalar S@a(x:{y:1})`

var richNames = strings.Fields("A B I J K U E N S d skip deprecated a b c Int __Type __DirectiveLocation __schema __type __typename fields")

// answered is what a type system answers of the names.
type answered struct {
	Schema            api.SysDef
	Names, Directives []string
	Types, Uses       []api.SysDef
	Possible          [][]string
	Fields            []api.FieldDef
}

// answers is a list, so that what stands in it can be written over.
func answers(s system) []answered {
	out := answered{Schema: s.Schema(), Names: s.Names(), Directives: s.Directives()}
	for _, a := range richNames {
		def, _ := s.Type(a)
		directive, _ := s.Directive(a)
		out.Types, out.Uses, out.Possible = append(out.Types, def), append(out.Uses, directive), append(out.Possible, s.Possible(a))
		for _, b := range richNames {
			field, _ := s.Field(a, b)
			out.Fields = append(out.Fields, field)
		}
	}
	return []answered{out}
}

// eachList goes through all lists of a thing, those inside of a list ahead of it.
func eachList(v reflect.Value, do func(list reflect.Value)) {
	switch v.Kind() {
	case reflect.Struct:
		for i := range v.NumField() {
			eachList(v.Field(i), do)
		}
	case reflect.Slice:
		for i := range v.Len() {
			eachList(v.Index(i), do)
		}
		do(v)
	}
}

// roomy is a deep copy in which each list has room to spare, and something in it.
func roomy(v reflect.Value) reflect.Value {
	out := reflect.New(v.Type()).Elem()
	switch v.Kind() {
	case reflect.Struct:
		for i := range v.NumField() {
			out.Field(i).Set(roomy(v.Field(i)))
		}
	case reflect.Slice:
		out.Set(reflect.MakeSlice(v.Type(), v.Len()+2, v.Len()+2))
		for i := range v.Len() {
			out.Index(i).Set(roomy(v.Index(i)))
		}
		out.Index(v.Len()).Set(marked(v.Type().Elem()))
		out.Set(out.Slice(0, v.Len()))
	default:
		out.Set(v)
	}
	return out
}

// marked is an element all of whose texts and numbers are set.
func marked(t reflect.Type) reflect.Value {
	out := reflect.New(t).Elem()
	switch t.Kind() {
	case reflect.Struct:
		for i := range t.NumField() {
			out.Field(i).Set(marked(t.Field(i).Type))
		}
	case reflect.String:
		out.SetString("spare")
	case reflect.Int:
		out.SetInt(77)
	}
	return out
}

// whole is a deep copy of a thing in which the lists' spare room counts.
func whole(v reflect.Value) reflect.Value {
	out := reflect.New(v.Type()).Elem()
	switch v.Kind() {
	case reflect.Struct:
		for i := range v.NumField() {
			out.Field(i).Set(whole(v.Field(i)))
		}
	case reflect.Slice:
		full := v.Slice(0, v.Cap())
		out.Set(reflect.MakeSlice(v.Type(), full.Len(), full.Len()))
		for i := range full.Len() {
			out.Index(i).Set(whole(full.Index(i)))
		}
	default:
		out.Set(v)
	}
	return out
}

// overwrite writes over all lists of a thing, their spare room too.
func overwrite(thing any) {
	eachList(reflect.ValueOf(thing), func(list reflect.Value) {
		full := list.Slice(0, list.Cap())
		for i := range full.Len() {
			full.Index(i).Set(marked(full.Type().Elem()))
		}
	})
}

// R3: what is handed in is left as it is, spare room too.
func TestDefinitionsAreLeft(t *testing.T) {
	defs := roomy(reflect.ValueOf(read(t, rich))).Interface().([]api.SysDef)
	before := whole(reflect.ValueOf(defs)).Interface()
	s := typesys.Build(defs)
	got := answers(s)
	if !reflect.DeepEqual(whole(reflect.ValueOf(defs)).Interface(), before) {
		t.Error("the definitions were changed")
	}
	alike(t, "lists with room to spare", got, answers(build(t, rich)))
	overwrite(got)
	if !reflect.DeepEqual(whole(reflect.ValueOf(defs)).Interface(), before) {
		t.Error("an answer shares memory with the definitions")
	}
}

// R3: the definitions may be written over behind Build.
func TestDefinitionsAreNotKept(t *testing.T) {
	defs := read(t, rich)
	s := typesys.Build(defs)
	overwrite(defs)
	alike(t, "behind Build", answers(s), answers(build(t, rich)))
	hold(t, "behind Build", s, newModel(t, rich), richNames)
}

// R3: whatever is done to an answer, no other has it.
func TestAnswersAreNew(t *testing.T) {
	var none *typesys.Types
	for _, s := range []*typesys.Types{build(t, rich), none} {
		first, second := answers(s), answers(s)
		want := even(first)
		overwrite(first)
		alike(t, "an earlier answer", second, want)
		alike(t, "a later answer", answers(s), want)
	}
	hold(t, "rich", build(t, rich), newModel(t, rich), richNames)
}

// room is the memory of a list, spare room too.
type room struct {
	from, to uintptr
	kind     string
}

func rooms(thing any) []room {
	var out []room
	eachList(reflect.ValueOf(thing), func(list reflect.Value) {
		if size := uintptr(list.Cap()) * list.Type().Elem().Size(); size > 0 {
			out = append(out, room{list.Pointer(), list.Pointer() + size, list.Type().String()})
		}
	})
	return out
}

// R3: no two lists share memory, of one answer, of two, or of an answer and the definitions.
func TestListsShareNone(t *testing.T) {
	defs := read(t, rich)
	s := typesys.Build(defs)
	one, two := answers(s), answers(s)
	all := slices.Concat(rooms(defs), rooms(one), rooms(two))
	slices.SortFunc(all, func(a, b room) int { return cmp.Compare(a.from, b.from) })
	if len(all) < 250 {
		t.Fatal("lists:", len(all))
	}
	for i := 1; i < len(all); i++ {
		if all[i-1].to > all[i].from {
			t.Error("shared:", all[i-1].kind, "and", all[i].kind)
		}
	}
	runtime.KeepAlive([]any{defs, one, two})
}

// R2: a type system that several ask at one time, and whose answers they write over, answers all of them alike.
func TestAskedAtOneTime(t *testing.T) {
	s := build(t, rich)
	want := even(answers(s))
	var wait sync.WaitGroup
	wrong := make([]bool, 16)
	for i := range wrong {
		wait.Go(func() {
			for range 5 {
				got := answers(s)
				wrong[i] = wrong[i] || !reflect.DeepEqual(even(got), want)
				overwrite(got)
			}
		})
	}
	wait.Wait()
	if slices.Contains(wrong, true) {
		t.Error("answers were unlike")
	}
}

// Each Build makes a type system of its own.
func TestBuiltApart(t *testing.T) {
	one, two := build(t, "type A{a:Int}"), build(t, "type B")
	alike(t, "Names of one", told(one.Names()), "A "+builtInTypes)
	alike(t, "Names of two", told(two.Names()), "B "+builtInTypes)
	if build(t, "") == build(t, "") {
		t.Error("two type systems are one")
	}
}
