package coerce_test

import (
	"cmp"
	"errors"
	"reflect"
	"runtime"
	"slices"
	"sync"
	"testing"

	"pergola/api"
	"pergola/coerce"
	"pergola/typesys"
)

const richTypes = `enum E {A B} scalar S
	input I {a: [Int!] = [1 2 3] b: I c: [[E!]] = [[A] B] d: S = {x: [1 {y: [2]}] z: []} e: J = {} f: [J] = [{} {k: [9]}] g: Float}
	input J {k: [Int] = [7 8] l: S = [[1] {m: [2]}]}
	type Query {q(i: I = {} j: [J] = [{} {}] s: S n: [[Int]] = 3): Int}`

// asked is all that the calls are handed, but for the type system.
type asked struct {
	Values []api.Value
	Wants  []api.TypeRef
	Lits   []api.Lit
	Vars   []api.Member
	Defs   []api.InputDef
	Args   []api.Arg
	Doc    api.Document
	Given  api.Value
}

// answered is all that the calls answer. What a misfit is stands apart, for errors hold pointers.
type answered struct {
	Values  []api.Value
	Misfits []coerce.Misfit
	Members [][]api.Member
	Faults  [][]api.Fault
	Errnos  []api.Errno
	Has     []bool
	Number  int
}

func rich(t testing.TB) asked {
	t.Helper()
	types := sound(t, richTypes)
	out := asked{
		Wants: []api.TypeRef{ref(t, "I!"), ref(t, "[S]"), ref(t, "[[I]]")},
		Vars:  members(t, `{"v":[1,[2,{"a":[3]}]],"w":{"k":[1]},"x":[5,6],"n":null}`),
		Defs:  fieldArgs(t, types, "q"),
		Args:  argsOf(t, "(s: [$v $v {a: $v b: [1]}] i: {f: [$w {k: $x}] d: [$v]})"),
		Doc:   parse(t, "query A ($i: I $j: [J] = [{} {}] $s: S! = [[1]] $n: Int!) {q(i: $i j: $j s: [$s $n])} fragment F on Query {q}"),
		Given: value(t, `{"n":3,"i":{"b":{"a":4},"c":[["B"]]},"s":[1,[2,{"a":[3]}]]}`),
	}
	for _, text := range []string{`{"b":{"a":[4],"d":[[5],{"p":[6]}]},"f":[{},{"k":[]}]}`, `[1,[2,[3]],{"a":[4]}]`, `{"a":[1],"f":[{},{"k":[1,"x"]}]}`, `{"b":{"b":{"zzz":[1]}}}`, `{"e":{"k":[1,[2]]}}`} {
		out.Values = append(out.Values, value(t, text))
	}
	for _, text := range []string{"{a: $x b: {f: [$w {l: $v}]} d: {q: [$v $n [$v]]}}", "[$v [$v {a: $v}] $n $u]", "{f: {l: [[1]]}}", "{a: [$n]}", "$u"} {
		out.Lits = append(out.Lits, lit(t, text))
	}
	return out
}

// ask makes every call over all that is handed in.
func ask(types *typesys.Types, a asked) answered {
	var out answered
	keep := func(v api.Value, err error) {
		out.Values = append(out.Values, v)
		if misfit := (*coerce.Misfit)(nil); errors.As(err, &misfit) {
			out.Misfits = append(out.Misfits, *misfit)
		}
	}
	for _, want := range a.Wants {
		for _, v := range a.Values {
			keep(coerce.Input(types, v, want))
		}
		for _, v := range a.Lits {
			made, has, errno := coerce.Literal(types, v, want, a.Vars)
			out.Values, out.Has, out.Errnos = append(out.Values, made), append(out.Has, has), append(out.Errnos, errno)
		}
	}
	for _, args := range [][]api.Arg{a.Args, nil} {
		made, errno := coerce.Arguments(types, a.Defs, args, a.Vars)
		out.Members, out.Errnos = append(out.Members, made), append(out.Errnos, errno)
	}
	for _, given := range append([]api.Value{a.Given, {}}, a.Values...) {
		made, faults := coerce.Variables(types, a.Doc, 0, given)
		out.Members, out.Faults = append(out.Members, made), append(out.Faults, faults)
	}
	number, errno := coerce.Choose(a.Doc, true, "A")
	out.Number, out.Errnos = number, append(out.Errnos, errno)
	return out
}

// The questions of these tests have answers of all kinds.
func TestRichIsRich(t *testing.T) {
	got := ask(sound(t, richTypes), rich(t))
	valued, failed := 0, 0
	for i, errno := range got.Errnos[:len(got.Has)] {
		if got.Has[i] {
			valued++
		} else if errno != api.OK {
			failed++
		}
	}
	if len(got.Misfits) < 6 || valued < 5 || failed < 2 || len(got.Members[0]) != 4 || len(got.Members[1]) != 3 || len(got.Members[2]) != 4 || len(got.Faults[1]) == 0 {
		t.Error(len(got.Misfits), valued, failed, len(got.Members[0]), len(got.Members[1]), len(got.Members[2]), got.Faults)
	}
}

// eachList goes through all lists of a thing, those inside of a list ahead of it.
func eachList(v reflect.Value, do func(list reflect.Value)) {
	switch v.Kind() {
	case reflect.Struct:
		for i := range v.NumField() {
			eachList(v.Field(i), do)
		}
	case reflect.Slice:
		for i := range v.Len() {
			eachList(v.Index(i), do)
		}
		do(v)
	}
}

// roomy is a deep copy in which each list has room to spare, and something in it.
func roomy(v reflect.Value) reflect.Value {
	out := reflect.New(v.Type()).Elem()
	switch v.Kind() {
	case reflect.Struct:
		for i := range v.NumField() {
			out.Field(i).Set(roomy(v.Field(i)))
		}
	case reflect.Slice:
		out.Set(reflect.MakeSlice(v.Type(), v.Len()+2, v.Len()+2))
		for i := range v.Len() {
			out.Index(i).Set(roomy(v.Index(i)))
		}
		out.Index(v.Len()).Set(marked(v.Type().Elem()))
		out.Set(out.Slice(0, v.Len()))
	default:
		out.Set(v)
	}
	return out
}

// marked is an element all of whose texts and numbers are set.
func marked(t reflect.Type) reflect.Value {
	out := reflect.New(t).Elem()
	switch t.Kind() {
	case reflect.Struct:
		for i := range t.NumField() {
			out.Field(i).Set(marked(t.Field(i).Type))
		}
	case reflect.String:
		out.SetString("spare")
	case reflect.Int, reflect.Int64:
		out.SetInt(77)
	}
	return out
}

// full is a deep copy in which the lists' spare room counts.
func full(v reflect.Value) reflect.Value {
	out := reflect.New(v.Type()).Elem()
	switch v.Kind() {
	case reflect.Struct:
		for i := range v.NumField() {
			out.Field(i).Set(full(v.Field(i)))
		}
	case reflect.Slice:
		all := v.Slice(0, v.Cap())
		out.Set(reflect.MakeSlice(v.Type(), all.Len(), all.Len()))
		for i := range all.Len() {
			out.Index(i).Set(full(all.Index(i)))
		}
	default:
		out.Set(v)
	}
	return out
}

// overwrite writes over all lists of a thing, their spare room too.
func overwrite(thing any) {
	eachList(reflect.ValueOf(thing), func(list reflect.Value) {
		all := list.Slice(0, list.Cap())
		for i := range all.Len() {
			all.Index(i).Set(marked(all.Type().Elem()))
		}
	})
}

func alike(t testing.TB, what string, got, want any) {
	t.Helper()
	if !reflect.DeepEqual(even(got), even(want)) {
		t.Errorf("%s: got\n%.2000v\nwant\n%.2000v", what, got, want)
	}
}

// seen is all that can be seen of a type system.
func seen(types *typesys.Types) []any {
	out := []any{types.Schema(), types.Names(), types.Directives()}
	for _, name := range types.Names() {
		def, _ := types.Type(name)
		out = append(out, def, types.Possible(name))
	}
	return out
}

// R3: what is handed in is left as it is, spare room too, and may be written over afterwards.
func TestArgumentsAreLeft(t *testing.T) {
	types := sound(t, richTypes)
	system := seen(types)
	want := even(ask(types, rich(t)))
	handed := roomy(reflect.ValueOf(rich(t))).Interface().(asked)
	before := full(reflect.ValueOf(handed)).Interface()
	got := ask(types, handed)
	if !reflect.DeepEqual(full(reflect.ValueOf(handed)).Interface(), before) {
		t.Error("what was handed in was changed")
	}
	overwrite(handed)
	alike(t, "behind the calls", got, want)
	if !reflect.DeepEqual(seen(types), system) {
		t.Error("the type system was changed")
	}
}

// R3: whatever is done to an answer, no other has it, nor what was handed in, nor the type system.
func TestAnswersAreNew(t *testing.T) {
	types, handed := sound(t, richTypes), rich(t)
	system := seen(types)
	first, second := ask(types, handed), ask(types, handed)
	want := even(first)
	overwrite(first)
	alike(t, "an earlier answer", second, want)
	alike(t, "a later answer", ask(types, handed), want)
	alike(t, "what was handed in", handed, rich(t))
	if !reflect.DeepEqual(seen(types), system) {
		t.Error("the type system was changed")
	}
}

// room is the memory of a list, spare room too.
type room struct {
	from, to uintptr
	kind     string
}

func rooms(thing any) []room {
	var out []room
	eachList(reflect.ValueOf(thing), func(list reflect.Value) {
		if size := uintptr(list.Cap()) * list.Type().Elem().Size(); size > 0 {
			out = append(out, room{list.Pointer(), list.Pointer() + size, list.Type().String()})
		}
	})
	return out
}

// R3: no two lists share memory, of one answer, of two, or of an answer and what was handed in.
func TestListsShareNone(t *testing.T) {
	types, handed := sound(t, richTypes), rich(t)
	one, two := ask(types, handed), ask(types, handed)
	all := slices.Concat(rooms(handed), rooms(one), rooms(two))
	slices.SortFunc(all, func(a, b room) int { return cmp.Compare(a.from, b.from) })
	if len(all) < 500 {
		t.Fatal("lists:", len(all))
	}
	for i := 1; i < len(all); i++ {
		if all[i-1].to > all[i].from {
			t.Error("shared:", all[i-1].kind, "and", all[i].kind)
		}
	}
	runtime.KeepAlive([]any{handed, one, two})
}

// R2: several that ask at one time, and write over what they are answered, are answered alike.
func TestAskedAtOneTime(t *testing.T) {
	types, handed := sound(t, richTypes), rich(t)
	want := even(ask(types, handed))
	var wait sync.WaitGroup
	wrong := make([]bool, 16)
	for i := range wrong {
		wait.Go(func() {
			for range 10 {
				got := ask(types, handed)
				wrong[i] = wrong[i] || !reflect.DeepEqual(even(got), want)
				overwrite(got)
			}
		})
	}
	wait.Wait()
	if slices.Contains(wrong, true) {
		t.Error("answers were unlike")
	}
}
