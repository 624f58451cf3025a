package lits_test

import (
	"cmp"
	"reflect"
	"runtime"
	"slices"
	"sync"
	"testing"

	"pergola/api"
	"pergola/lits"
	"pergola/typesys"
)

const (
	richTypes = `enum E {A B} scalar S type T {x: Int}
		input I {a: [Int!] = [1 2 3] b: I c: [[E!]] = [[A] B] d: S = {x: [1 {y: [2]}] z: []} e: J = {} f: [J] = [{} {k: [9]}]}
		input J {k: [Int] = [7 8] l: S = [[1] {m: [2]}]}`
	rightLit = `{a: [4 5] b: {f: {l: [[3] {n: [A]}]} b: {a: 1}} c: [[B] [A B]]}`
	wrongLit = `{a: ["s" null 5] b: {z: [$v {y: [$w] y: $v}] a: [$v] a: {}} e: {k: [[1]] k: 1 k: 2} f: [1 $x {q: 1 q: 2 q: 3}]}`
)

// eachList goes through all lists of a thing, those inside of a list ahead of it.
func eachList(v reflect.Value, do func(list reflect.Value)) {
	switch v.Kind() {
	case reflect.Struct:
		for i := range v.NumField() {
			eachList(v.Field(i), do)
		}
	case reflect.Slice:
		for i := range v.Len() {
			eachList(v.Index(i), do)
		}
		do(v)
	}
}

// roomy is a deep copy in which each list has room to spare, and something in it.
func roomy(v reflect.Value) reflect.Value {
	out := reflect.New(v.Type()).Elem()
	switch v.Kind() {
	case reflect.Struct:
		for i := range v.NumField() {
			out.Field(i).Set(roomy(v.Field(i)))
		}
	case reflect.Slice:
		out.Set(reflect.MakeSlice(v.Type(), v.Len()+2, v.Len()+2))
		for i := range v.Len() {
			out.Index(i).Set(roomy(v.Index(i)))
		}
		out.Index(v.Len()).Set(marked(v.Type().Elem()))
		out.Set(out.Slice(0, v.Len()))
	default:
		out.Set(v)
	}
	return out
}

// marked is an element all of whose texts and numbers are set.
func marked(t reflect.Type) reflect.Value {
	out := reflect.New(t).Elem()
	switch t.Kind() {
	case reflect.Struct:
		for i := range t.NumField() {
			out.Field(i).Set(marked(t.Field(i).Type))
		}
	case reflect.String:
		out.SetString("spare")
	case reflect.Int, reflect.Int64:
		out.SetInt(77)
	}
	return out
}

// whole is a deep copy of a thing in which the lists' spare room counts.
func whole(v reflect.Value) reflect.Value {
	out := reflect.New(v.Type()).Elem()
	switch v.Kind() {
	case reflect.Struct:
		for i := range v.NumField() {
			out.Field(i).Set(whole(v.Field(i)))
		}
	case reflect.Slice:
		full := v.Slice(0, v.Cap())
		out.Set(reflect.MakeSlice(v.Type(), full.Len(), full.Len()))
		for i := range full.Len() {
			out.Index(i).Set(whole(full.Index(i)))
		}
	default:
		out.Set(v)
	}
	return out
}

// overwrite writes over all lists of a thing, their spare room too.
func overwrite(thing any) {
	eachList(reflect.ValueOf(thing), func(list reflect.Value) {
		full := list.Slice(0, list.Cap())
		for i := range full.Len() {
			full.Index(i).Set(marked(full.Type().Elem()))
		}
	})
}

// rich are a literal that has a value and one that has faults and variables.
func rich(t testing.TB) []api.Lit {
	t.Helper()
	return []api.Lit{lit(t, rightLit), lit(t, wrongLit)}
}

// richAnswers is a list, so that what stands in it can be written over.
func richAnswers(types *typesys.Types, all []api.Lit) []answered {
	var out []answered
	for i, v := range all {
		out = append(out, answers(types, v, all[len(all)-1-i], api.TypeRef{Name: "I", Wrap: "!"}))
		out = append(out, answers(types, v, v, api.TypeRef{Name: "S"}), answers(types, v, v, api.TypeRef{}))
	}
	return out
}

// The literals of these tests answer lists of all kinds.
func TestRichIsRich(t *testing.T) {
	types, all := build(t, richTypes), rich(t)
	checkRows(t, types, []row{
		{rightLit, "I!", "", `{"a":[4,5],"b":{"a":[1,2,3],"b":{"a":[1],"c":[["A"],["B"]],"d":{"x":[1,{"y":[2]}],"z":[]},"e":{"k":[7,8],"l":[[1],{"m":[2]}]},"f":[{"k":[7,8],"l":[[1],{"m":[2]}]},{"k":[9],"l":[[1],{"m":[2]}]}]},"c":[["A"],["B"]],"d":{"x":[1,{"y":[2]}],"z":[]},"e":{"k":[7,8],"l":[[1],{"m":[2]}]},"f":[{"k":[7,8],"l":[[3],{"n":["A"]}]}]},"c":[["B"],["A","B"]],"d":{"x":[1,{"y":[2]}],"z":[]},"e":{"k":[7,8],"l":[[1],{"m":[2]}]},"f":[{"k":[7,8],"l":[[1],{"m":[2]}]},{"k":[9],"l":[[1],{"m":[2]}]}]}`},
	})
	if faults := lits.Check(types, all[1], ref(t, "I!")); len(faults) < 10 {
		t.Error("faults:", told(faults))
	}
	if vars := lits.Vars(all[1]); len(vars) != 5 {
		t.Error("variables:", varsText(vars))
	}
}

// P13.5: what is handed in is left as it is, spare room too, and may be written over afterwards.
func TestLiteralsAreLeft(t *testing.T) {
	types := build(t, richTypes)
	want := even(richAnswers(types, rich(t)))
	all := roomy(reflect.ValueOf(rich(t))).Interface().([]api.Lit)
	before := whole(reflect.ValueOf(all)).Interface()
	got := richAnswers(types, all)
	if !reflect.DeepEqual(whole(reflect.ValueOf(all)).Interface(), before) {
		t.Error("the literals were changed")
	}
	overwrite(all)
	alike(t, "behind the call", got, want)
	all = rich(t)
	got = richAnswers(types, all)
	overwrite(got)
	alike(t, "the literals", all, rich(t))
}

// P13.5: whatever is done to an answer, no other has it, nor the type system.
func TestAnswersAreNew(t *testing.T) {
	types, all := build(t, richTypes), rich(t)
	first, second := richAnswers(types, all), richAnswers(types, all)
	want := even(first)
	overwrite(first)
	alike(t, "an earlier answer", second, want)
	alike(t, "a later answer", richAnswers(types, all), want)
}

// room is the memory of a list, spare room too.
type room struct {
	from, to uintptr
	kind     string
}

func rooms(thing any) []room {
	var out []room
	eachList(reflect.ValueOf(thing), func(list reflect.Value) {
		if size := uintptr(list.Cap()) * list.Type().Elem().Size(); size > 0 {
			out = append(out, room{list.Pointer(), list.Pointer() + size, list.Type().String()})
		}
	})
	return out
}

// P13.5: no two lists share memory, of one answer, of two, or of an answer and the literals.
func TestListsShareNone(t *testing.T) {
	types, literals := build(t, richTypes), rich(t)
	one, two := richAnswers(types, literals), richAnswers(types, literals)
	all := slices.Concat(rooms(literals), rooms(one), rooms(two))
	slices.SortFunc(all, func(a, b room) int { return cmp.Compare(a.from, b.from) })
	if len(all) < 200 {
		t.Fatal("lists:", len(all))
	}
	for i := 1; i < len(all); i++ {
		if all[i-1].to > all[i].from {
			t.Error("shared:", all[i-1].kind, "and", all[i].kind)
		}
	}
	runtime.KeepAlive([]any{literals, one, two})
}

// R2: several that ask at one time, and write over what they are answered, are answered alike.
func TestAskedAtOneTime(t *testing.T) {
	types, all := build(t, richTypes), rich(t)
	want := even(richAnswers(types, all))
	var wait sync.WaitGroup
	wrong := make([]bool, 16)
	for i := range wrong {
		wait.Go(func() {
			for range 20 {
				got := richAnswers(types, all)
				wrong[i] = wrong[i] || !reflect.DeepEqual(even(got), want)
				overwrite(got)
			}
		})
	}
	wait.Wait()
	if slices.Contains(wrong, true) {
		t.Error("answers were unlike")
	}
}
