package collect_test

import (
	"cmp"
	"reflect"
	"runtime"
	"slices"
	"sync"
	"testing"

	"pergola/api"
	"pergola/collect"
	"pergola/typesys"
)

const rich = `query A ($v: Boolean = true $w: Boolean = false $i: Int) @uses(of: [$v $w]) {
	k: a(x: $i) @many(if: $w) ...F i {... on O @include(if: $v) {a(x: 1) c ...G} ... on P {...G b @skip(if: $w)} ...F i {a}}
	q @include(if: $v) {q {a ...F} b} q @skip(if: $w) {q {b ...G}} a2: a @skip(if: $v)}
	fragment F on I {i {... on O {c} ...G} k: a(x: $i) ...G}
	fragment G on I {b ... on J {j {a}} u {... on P {c}}}`

// handed is all that New and Sub are handed, but for the type system.
type handed struct {
	Doc   api.Document
	Vars  []api.Member
	Nodes [][]int
}

func richHanded(t testing.TB, types *typesys.Types) handed {
	t.Helper()
	doc := valid(t, types, rich)
	return handed{doc, variables(t, types, doc, 0, `{"w":false,"i":7}`), [][]int{{2, 23}, {18, 13, 2, 13}, {13}, {-1, 3, 2, 99, 2}}}
}

// asked is all that a plan answers to these tests.
type asked struct {
	All   answered
	Lists [][]api.Group
}

func ask(p *collect.Plan, types *typesys.Types, h handed) asked {
	out := asked{All: answers(p, types)}
	for _, object := range []string{"Query", "O", "P"} {
		for _, nodes := range h.Nodes {
			out.Lists = append(out.Lists, p.Sub(object, nodes))
		}
	}
	return out
}

// The questions of these tests have answers of all sorts.
func TestRichIsRich(t *testing.T) {
	types := sound(t, zoo)
	h := richHanded(t, types)
	p, _ := hold(t, rich, types, h.Doc, 0, h.Vars)
	got := ask(p, types, h)
	groups, nodes := 0, 0
	for _, list := range append(got.Lists, got.All.Subs...) {
		groups += len(list)
		for _, g := range list {
			nodes += len(g.Nodes)
		}
	}
	if told(got.All.Root) != "k: 0 27; i: 23 2; b: 29; u: 33; q: 13 18" || groups < 100 || nodes < groups+50 {
		t.Error(told(got.All.Root), groups, nodes)
	}
}

// eachList goes through all lists of a thing, those inside of a list ahead of it.
func eachList(v reflect.Value, do func(list reflect.Value)) {
	switch v.Kind() {
	case reflect.Struct:
		for i := range v.NumField() {
			eachList(v.Field(i), do)
		}
	case reflect.Slice:
		for i := range v.Len() {
			eachList(v.Index(i), do)
		}
		do(v)
	}
}

// marked is an element all of whose texts and numbers are set.
func marked(t reflect.Type) reflect.Value {
	out := reflect.New(t).Elem()
	switch t.Kind() {
	case reflect.Struct:
		for i := range t.NumField() {
			out.Field(i).Set(marked(t.Field(i).Type))
		}
	case reflect.String:
		out.SetString("spare")
	case reflect.Int, reflect.Int64:
		out.SetInt(77)
	}
	return out
}

// roomy is a deep copy in which each list has room to spare, and something in it.
func roomy(v reflect.Value) reflect.Value {
	out := reflect.New(v.Type()).Elem()
	switch v.Kind() {
	case reflect.Struct:
		for i := range v.NumField() {
			out.Field(i).Set(roomy(v.Field(i)))
		}
	case reflect.Slice:
		out.Set(reflect.MakeSlice(v.Type(), v.Len()+2, v.Len()+2))
		for i := range v.Len() {
			out.Index(i).Set(roomy(v.Index(i)))
		}
		out.Index(v.Len()).Set(marked(v.Type().Elem()))
		out.Set(out.Slice(0, v.Len()))
	default:
		out.Set(v)
	}
	return out
}

// full is a deep copy in which the lists' spare room counts.
func full(v reflect.Value) reflect.Value {
	out := reflect.New(v.Type()).Elem()
	switch v.Kind() {
	case reflect.Struct:
		for i := range v.NumField() {
			out.Field(i).Set(full(v.Field(i)))
		}
	case reflect.Slice:
		all := v.Slice(0, v.Cap())
		out.Set(reflect.MakeSlice(v.Type(), all.Len(), all.Len()))
		for i := range all.Len() {
			out.Index(i).Set(full(all.Index(i)))
		}
	default:
		out.Set(v)
	}
	return out
}

// overwrite writes over all lists of a thing, their spare room too.
func overwrite(thing any) {
	eachList(reflect.ValueOf(thing), func(list reflect.Value) {
		all := list.Slice(0, list.Cap())
		for i := range all.Len() {
			all.Index(i).Set(marked(all.Type().Elem()))
		}
	})
}

// seen is all that can be seen of a type system.
func seen(types *typesys.Types) []any {
	out := []any{types.Schema(), types.Names(), types.Directives()}
	for _, name := range types.Names() {
		def, _ := types.Type(name)
		out = append(out, def, types.Possible(name))
	}
	return out
}

// P24.1, R3: what is handed in is left as it is, spare room too, and may be written over afterwards: a plan has copies.
func TestArgumentsAreLeft(t *testing.T) {
	types := sound(t, zoo)
	system := seen(types)
	own := richHanded(t, types)
	want := ask(collect.New(types, own.Doc, 0, own.Vars), types, own)
	h := roomy(reflect.ValueOf(own)).Interface().(handed)
	before := full(reflect.ValueOf(h)).Interface()
	p := collect.New(types, h.Doc, 0, h.Vars)
	alike(t, "the first answers", ask(p, types, h), want)
	if !reflect.DeepEqual(full(reflect.ValueOf(h)).Interface(), before) {
		t.Error("what was handed in was changed")
	}
	overwrite(h)
	alike(t, "the answers of a plan whose arguments are written over", ask(p, types, own), want)
	if !reflect.DeepEqual(seen(types), system) {
		t.Error("the type system was changed")
	}
}

// A plan that hasn't been asked yet has copies too.
func TestArgumentsAreCopiedAtOnce(t *testing.T) {
	types := sound(t, zoo)
	own, h := richHanded(t, types), richHanded(t, types)
	want := ask(collect.New(types, own.Doc, 0, own.Vars), types, own)
	p := collect.New(types, h.Doc, 0, h.Vars)
	overwrite(h)
	alike(t, "the answers", ask(p, types, own), want)
}

// P24.5, R3: whatever is done to an answer, no other has it, nor what was handed in, nor the type system.
func TestAnswersAreNew(t *testing.T) {
	types := sound(t, zoo)
	h := richHanded(t, types)
	system, before := seen(types), full(reflect.ValueOf(h)).Interface()
	p := collect.New(types, h.Doc, 0, h.Vars)
	first, second := ask(p, types, h), ask(p, types, h)
	want := even(second)
	overwrite(first)
	alike(t, "an earlier answer", second, want)
	alike(t, "a later answer", ask(p, types, h), want)
	if !reflect.DeepEqual(full(reflect.ValueOf(h)).Interface(), before) || !reflect.DeepEqual(seen(types), system) {
		t.Error("what was handed in was written over")
	}
}

// room is the memory of a list, its spare room too.
type room struct {
	from, to uintptr
	kind     string
}

func rooms(thing any) []room {
	var out []room
	eachList(reflect.ValueOf(thing), func(list reflect.Value) {
		if size := uintptr(list.Cap()) * list.Type().Elem().Size(); size > 0 {
			out = append(out, room{list.Pointer(), list.Pointer() + size, list.Type().String()})
		}
	})
	return out
}

// R3: no two lists share memory, of one answer, of two, or of an answer and what was handed in.
func TestListsShareNone(t *testing.T) {
	types := sound(t, zoo)
	h := richHanded(t, types)
	p := collect.New(types, h.Doc, 0, h.Vars)
	one, two := ask(p, types, h), ask(p, types, h)
	all := slices.Concat(rooms(h), rooms(one), rooms(two))
	slices.SortFunc(all, func(a, b room) int { return cmp.Compare(a.from, b.from) })
	if len(all) < 500 {
		t.Fatal("lists:", len(all))
	}
	for i := 1; i < len(all); i++ {
		if all[i-1].to > all[i].from {
			t.Error("shared:", all[i-1].kind, "and", all[i].kind)
		}
	}
	runtime.KeepAlive([]any{h, one, two})
}

// P24.5: an answer hangs on no earlier call: each question is the first one of a plan, and the last one of another.
func TestOrderOfCalls(t *testing.T) {
	types := sound(t, zoo)
	h := richHanded(t, types)
	used := collect.New(types, h.Doc, 0, h.Vars)
	for range 2 {
		for _, object := range names(types) {
			for _, nodes := range append(h.Nodes, []int{0}, []int{18}, []int{33}) {
				fresh := collect.New(types, h.Doc, 0, h.Vars)
				alike(t, "Sub of "+object, used.Sub(object, nodes), fresh.Sub(object, nodes))
			}
			alike(t, "Root", used.Root(), collect.New(types, h.Doc, 0, h.Vars).Root())
		}
	}
}

// R2: several that ask one plan at one time, and write over what they are answered, are answered alike.
func TestAskedAtOneTime(t *testing.T) {
	types := sound(t, zoo)
	h := richHanded(t, types)
	p := collect.New(types, h.Doc, 0, h.Vars)
	want := even(ask(p, types, h))
	var wait sync.WaitGroup
	wrong := make([]bool, 16)
	for i := range wrong {
		wait.Go(func() {
			for range 10 {
				got := ask(p, types, h)
				wrong[i] = wrong[i] || !reflect.DeepEqual(even(got), want)
				overwrite(got)
			}
		})
	}
	wait.Wait()
	if slices.Contains(wrong, true) {
		t.Error("answers were unlike")
	}
}
