package scope_test

import (
	"cmp"
	"reflect"
	"runtime"
	"slices"
	"sync"
	"testing"

	"pergola/api"
	"pergola/scope"
)

// rich has several elements in each list that a sheet can answer.
const rich = `query Q($a: [Int!] = [1 [2 {b: [3 4] c: []}]] @d(x: [1 2] y: {a: [5 6]}) @d $b: P = {a: {b: [A B]}}) @d(x: $a y: [{b: [$b $b]}]) @skip(if: [$a]) {
		k: f(x: [1 $a {y: [2 $b]}] z: {q: [$a $b]}) @d(x: [1 2]) @d(y: [{a: $a} {a: $b}]) {a(x: [1 2]) n {n ...F @d(x: [3 4])} ...G}
		... on O @d(y: {a: {b: [$a $b]}}) {a b} ... {self {self {o {a b}}} o}
	}
	fragment F on O @d(x: [7 8]) @nope(a: [1 2] b: {c: [3 4]}) {a ...G ...H n {n}}
	fragment G on N {n ...F ...G} fragment H on U {... on V {v {v v}}}`

// eachList goes through all lists of a thing, those inside of a list ahead of it.
func eachList(v reflect.Value, do func(list reflect.Value)) {
	switch v.Kind() {
	case reflect.Struct:
		for i := range v.NumField() {
			eachList(v.Field(i), do)
		}
	case reflect.Slice:
		for i := range v.Len() {
			eachList(v.Index(i), do)
		}
		do(v)
	}
}

// roomy is a deep copy in which each list has room to spare, and something in it.
func roomy(v reflect.Value) reflect.Value {
	out := reflect.New(v.Type()).Elem()
	switch v.Kind() {
	case reflect.Struct:
		for i := range v.NumField() {
			out.Field(i).Set(roomy(v.Field(i)))
		}
	case reflect.Slice:
		out.Set(reflect.MakeSlice(v.Type(), v.Len()+2, v.Len()+2))
		for i := range v.Len() {
			out.Index(i).Set(roomy(v.Index(i)))
		}
		out.Index(v.Len()).Set(marked(v.Type().Elem()))
		out.Set(out.Slice(0, v.Len()))
	default:
		out.Set(v)
	}
	return out
}

// marked is an element all of whose texts and numbers are set.
func marked(t reflect.Type) reflect.Value {
	out := reflect.New(t).Elem()
	switch t.Kind() {
	case reflect.Struct:
		for i := range t.NumField() {
			out.Field(i).Set(marked(t.Field(i).Type))
		}
	case reflect.String:
		out.SetString("spare")
	case reflect.Int:
		out.SetInt(77)
	}
	return out
}

// whole is a deep copy of a thing in which the lists' spare room counts.
func whole(v reflect.Value) reflect.Value {
	out := reflect.New(v.Type()).Elem()
	switch v.Kind() {
	case reflect.Struct:
		for i := range v.NumField() {
			out.Field(i).Set(whole(v.Field(i)))
		}
	case reflect.Slice:
		full := v.Slice(0, v.Cap())
		out.Set(reflect.MakeSlice(v.Type(), full.Len(), full.Len()))
		for i := range full.Len() {
			out.Index(i).Set(whole(full.Index(i)))
		}
	default:
		out.Set(v)
	}
	return out
}

// overwrite writes over all lists of a thing, their spare room too.
func overwrite(thing any) {
	eachList(reflect.ValueOf(thing), func(list reflect.Value) {
		full := list.Slice(0, list.Cap())
		for i := range full.Len() {
			full.Index(i).Set(marked(full.Type().Elem()))
		}
	})
}

// The document of these tests has all that a sheet can have.
func TestRichIsRich(t *testing.T) {
	a := hold(t, "rich", sound(t, zoo), parse(t, rich))
	if len(a.Nodes) < 20 || len(a.Uses) < 12 || len(a.Spots) < 15 || len(a.Marks) < 10 {
		t.Error("too few:", len(a.Nodes), len(a.Uses), len(a.Spots), len(a.Marks))
	}
	alike(t, "Reach", a.Reach[1], []int{1, 2, 3})
}

// P16.1, R3: the document is left as it is, spare room too, and may be written over afterwards.
func TestDocumentIsLeft(t *testing.T) {
	types := sound(t, zoo)
	want := even(answers(scope.Lay(types, parse(t, rich))))
	doc := roomy(reflect.ValueOf(parse(t, rich))).Interface().(api.Document)
	before := whole(reflect.ValueOf(doc)).Interface()
	s := scope.Lay(types, doc)
	alike(t, "behind Lay", answers(s), want)
	if !reflect.DeepEqual(whole(reflect.ValueOf(doc)).Interface(), before) {
		t.Error("the document was changed")
	}
	overwrite(doc)
	alike(t, "behind the document's change", answers(s), want)
	doc = parse(t, rich)
	got := answers(scope.Lay(types, doc))
	overwrite(got)
	alike(t, "the document", doc, parse(t, rich))
}

// P16.5: whatever is done to an answer, no other has it.
func TestAnswersAreNew(t *testing.T) {
	s := scope.Lay(sound(t, zoo), parse(t, rich))
	first, second := answers(s), answers(s)
	want := even(first)
	overwrite(first)
	alike(t, "an earlier answer", second, want)
	alike(t, "a later answer", answers(s), want)
	overwrite(second.Document)
	overwrite(second.Marks)
	alike(t, "another kind of answer", second.Nodes, want.(answered).Nodes)
	alike(t, "another kind of answer", second.Spots, want.(answered).Spots)
	alike(t, "a later answer", answers(s), want)
}

// room is the memory of a list, spare room too.
type room struct {
	from, to uintptr
	kind     string
}

func rooms(thing any) []room {
	var out []room
	eachList(reflect.ValueOf(thing), func(list reflect.Value) {
		if size := uintptr(list.Cap()) * list.Type().Elem().Size(); size > 0 {
			out = append(out, room{list.Pointer(), list.Pointer() + size, list.Type().String()})
		}
	})
	return out
}

// P16.5: no two lists share memory, of one answer, of two, of two sheets, or of an answer and the document.
func TestListsShareNone(t *testing.T) {
	types, doc := sound(t, zoo), parse(t, rich)
	s := scope.Lay(types, doc)
	one, two, other := answers(s), answers(s), answers(scope.Lay(types, doc))
	all := slices.Concat(rooms(doc), rooms(one), rooms(two), rooms(other))
	slices.SortFunc(all, func(a, b room) int { return cmp.Compare(a.from, b.from) })
	if len(all) < 600 {
		t.Fatal("lists:", len(all))
	}
	for i := 1; i < len(all); i++ {
		if all[i-1].to > all[i].from {
			t.Error("shared:", all[i-1].kind, "and", all[i].kind)
		}
	}
	runtime.KeepAlive([]any{doc, one, two, other})
}

// R2: several that ask one sheet at one time, lay others, and write over what they are answered, are answered alike.
func TestAskedAtOneTime(t *testing.T) {
	types, doc := sound(t, zoo), parse(t, rich)
	s := scope.Lay(types, doc)
	want := even(answers(s))
	var wait sync.WaitGroup
	wrong := make([]bool, 16)
	for i := range wrong {
		wait.Go(func() {
			for range 20 {
				got, again := answers(s), answers(scope.Lay(types, doc))
				wrong[i] = wrong[i] || !reflect.DeepEqual(even(got), want) || !reflect.DeepEqual(even(again), want)
				overwrite(got)
				overwrite(again)
			}
		})
	}
	wait.Wait()
	if slices.Contains(wrong, true) {
		t.Error("answers were unlike")
	}
}
