package introspect_test

import (
	"cmp"
	"reflect"
	"runtime"
	"slices"
	"strings"
	"sync"
	"testing"
	"unsafe"

	"pergola/api"
	"pergola/introspect"
	"pergola/typesys"
)

// richSource has several parts in each list that can be told.
const richSource = `"s" schema{query:Query mutation:M} type M{m:Int} type Query implements I&J{"n" a(x:[Int!]=[1 2] y:P={x:3}):[U!]! @deprecated(reason:"r") b:Int c:E}
interface I{b:Int c:E} interface J{b:Int} union U=Query|M enum E{"v" A B@deprecated C} input P{x:Int=1 y:[P!]=[{} {x:2}]} scalar S@specifiedBy(url:"u") "d" directive@d(x:Int=1 y:String="z")repeatable on FIELD|QUERY`

// answers are what all fields of all known handles answer, by the handles in their order.
func answers(t testing.TB, types *typesys.Types, known []string) []api.Value {
	t.Helper()
	schema, _ := introspect.Root(types, "__schema", nil)
	typ, _ := introspect.Root(types, "__type", arg("name", text("E")))
	out := []api.Value{schema, typ}
	for _, told := range known {
		typ, own, _ := strings.Cut(told, ":")
		for _, field := range fieldsOf(t, typ) {
			one, _ := introspect.Field(types, handle(typ, own), field, nil)
			all, ok := introspect.Field(types, handle(typ, own), field, deprecatedToo())
			if !ok {
				t.Fatal("nothing:", told, field)
			}
			out = append(out, one, all)
		}
	}
	return out
}

// richHandles are all known handles of the rich source, and some with a wrap.
func richHandles(t testing.TB) []string {
	var known []string
	for told := range newModel(t, sound(t, richSource)).pages {
		known = append(known, told)
	}
	slices.Sort(known)
	return append(known, "__Type:[Int!]!", "__Type:[[U!]]", "__Type:E!")
}

// eachList goes through all lists of a thing, those inside of a list ahead of it.
func eachList(v reflect.Value, do func(list reflect.Value)) {
	switch v.Kind() {
	case reflect.Struct:
		for i := range v.NumField() {
			eachList(v.Field(i), do)
		}
	case reflect.Slice:
		for i := range v.Len() {
			eachList(v.Index(i), do)
		}
		do(v)
	}
}

// overwrite writes over all lists of a thing, their spare room too.
func overwrite(thing any) {
	eachList(reflect.ValueOf(thing), func(list reflect.Value) {
		full := list.Slice(0, list.Cap())
		for i := range full.Len() {
			full.Index(i).Set(reflect.ValueOf(spare(full.Index(i).Interface())))
		}
	})
}

// spare is what is written over an element of a list.
func spare(element any) any {
	v := api.Value{Kind: api.KindHandle, Type: "spare", Text: "spare"}
	if _, ok := element.(api.Member); ok {
		return api.Member{Name: "spare", Value: v}
	}
	return v
}

// R3: whatever is done to an answer, no other has it, nor the type system.
func TestAnswersAreNew(t *testing.T) {
	types, known := sound(t, richSource), richHandles(t)
	first, second := answers(t, types, known), answers(t, types, known)
	want := toldList(first)
	overwrite(first)
	if toldList(second) != want {
		t.Error("an earlier answer was changed")
	}
	if toldList(answers(t, types, known)) != want {
		t.Error("a later answer was changed")
	}
}

// room is the memory of a list, spare room too.
type room struct {
	from, to uintptr
}

func rooms(values []api.Value) []room {
	var out []room
	eachList(reflect.ValueOf(values), func(list reflect.Value) {
		if size := uintptr(list.Cap()) * list.Type().Elem().Size(); size > 0 {
			out = append(out, room{list.Pointer(), list.Pointer() + size})
		}
	})
	return out
}

// R3: no two lists share memory, of one answer or of two.
func TestListsShareNone(t *testing.T) {
	types, known := sound(t, richSource), richHandles(t)
	one, two := answers(t, types, known), answers(t, types, known)
	all := slices.Concat(rooms(one), rooms(two))
	slices.SortFunc(all, func(a, b room) int { return cmp.Compare(a.from, b.from) })
	if len(all) < 100 {
		t.Fatal("lists:", len(all))
	}
	for i := 1; i < len(all); i++ {
		if all[i-1].to > all[i].from {
			t.Error("two lists share memory")
		}
	}
	runtime.KeepAlive([]any{one, two})
}

// handed is all that is handed in, spare room too.
type handed struct {
	More         []api.Value
	Fields, Args []api.Member
	Handle       api.Value
}

// R3: what is handed in is left as it is, spare room too.
func TestArgumentsAreLeft(t *testing.T) {
	types := sound(t, richSource)
	more := []api.Value{text("a"), text("b"), text("spare")}[:2]
	fields := append(arg("x", text("y")), api.Member{Name: "spare"})[:1]
	h := api.Value{Kind: api.KindHandle, Type: "__Type", Text: "Query", Items: more, Fields: fields}
	args := []api.Member{{Name: "name", Value: text("E")}, {Name: "x", Value: h}, {Name: "includeDeprecated", Value: truth(true)}, {Name: "name"}, {Name: "spare"}}[:4]
	whole := func() handed { return handed{more[:3], fields[:2], args[:5], h} }
	before := remade(whole(), nil)
	for _, field := range otherNames(t) {
		introspect.Root(types, field, args)
		introspect.Field(types, h, field, args)
		v, _ := introspect.Field(types, handle("__Type", "E"), field, args)
		overwrite([]api.Value{v})
	}
	if !reflect.DeepEqual(remade(whole(), nil), before) {
		t.Error("what was handed in is changed")
	}
}

// shares: do two texts stand in the same memory?
func shares(a, b string) bool {
	from, other := uintptr(unsafe.Pointer(unsafe.StringData(a))), uintptr(unsafe.Pointer(unsafe.StringData(b)))
	return len(a) > 0 && len(b) > 0 && from < other+uintptr(len(b)) && other < from+uintptr(len(a))
}

// R3: no text that is answered is a piece of one that was handed in.
func TestTextsAreNew(t *testing.T) {
	types := sound(t, richSource)
	name := strings.Clone("Query")
	if v, _ := introspect.Root(types, "__type", arg("name", text(name))); v.Text != name || shares(v.Text, name) {
		t.Error("Root keeps the name")
	}
	for _, told := range richHandles(t) {
		typ, own, _ := strings.Cut(told, ":")
		own = strings.Clone(own)
		for _, field := range fieldsOf(t, typ) {
			v, _ := introspect.Field(types, handle(typ, own), field, deprecatedToo())
			for _, part := range append(v.Items, v) {
				if shares(part.Text, own) || shares(part.Type, own) {
					t.Errorf("%s %s shares the handle's text", told, field)
				}
			}
		}
	}
}

// R2: several that ask at one time, and write over what they are answered, are answered alike.
func TestAskedAtOneTime(t *testing.T) {
	types, known := sound(t, richSource), richHandles(t)
	want := toldList(answers(t, types, known))
	var wait sync.WaitGroup
	wrong := make([]bool, 16)
	for i := range wrong {
		wait.Go(func() {
			for range 10 {
				got := answers(t, types, known)
				wrong[i] = wrong[i] || toldList(got) != want
				overwrite(got)
			}
		})
	}
	wait.Wait()
	if slices.Contains(wrong, true) {
		t.Error("answers were unlike")
	}
}

// R2: nothing is kept between calls: each answer hangs on its own type system, whatever was asked before.
func TestNothingIsKept(t *testing.T) {
	one, two := sound(t, "type Query{a:Int}"), sound(t, `"two" type Query{b:[Int]} enum E{A}`)
	for range 3 {
		checkRows(t, one, "R2", []row{{"__Type:Query", "fields", "[__Field:Query.a]"}, {"__Field:Query.a", "type", "__Type:Int"}, {"__Field:Query.b", "type", nothing}, {"__Type:Query", "description", "null"}, {"__Type:E", "kind", nothing}})
		checkRows(t, two, "R2", []row{{"__Type:Query", "fields", "[__Field:Query.b]"}, {"__Field:Query.a", "type", nothing}, {"__Field:Query.b", "type", "__Type:[Int]"}, {"__Type:Query", "description", "'two'"}, {"__Type:E", "kind", "'ENUM'"}})
	}
}
