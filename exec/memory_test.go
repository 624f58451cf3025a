package exec_test

import (
	"cmp"
	"reflect"
	"runtime"
	"slices"
	"sync"
	"testing"
	"time"

	"pergola/api"
	"pergola/exec"
	"pergola/typesys"
)

// handed is all that Run is handed, but for the type system.
type handed struct {
	Doc     api.Document
	Vars    []api.Member
	Entries []api.Entry
}

const rich = `query A ($v: Int = 4 $w: Boolean = false) {
	a(x: $v) n(x: $v p: {y: 3 z: [$v]}) ns s k: s ss es is {...F u {... on V {us {...F}}}} is {b} __schema {directives {args {name}}}
	t {kind fields @skip(if: $w) {name args {name defaultValue}}} q {q {a b q {b}} ...F}}
	fragment F on I {a i {... on O {k s} a} b}`

func richHanded(t testing.TB, types *typesys.Types) handed {
	t.Helper()
	doc := valid(t, types, rich)
	return handed{doc, variables(t, types, doc, 0, `{"v":9}`), table(t,
		`/a Query a {"x":9} 1`, `/n Query n {"x":9,"p":{"y":3,"z":[9]}} [[1,2],[null],[],[3]]`, `/ns Query ns {} [1,2,3]`, `/unmet Query ns {} [1,{"a":[2]},3]`,
		`/s Query s {} {"x":[1,{"y":[2,"z"]}],"l":[[],[1]]}`, `/k Query s {} [["@Query"]]`, `/ss Query ss {} [[1,[2]],{"a":[1],"b":{}},null]`, `/es Query es {} ["A","C","B","D"]`,
		`/is Query is {} ["@O","@V","@Query"]`, `/is/0/a O a {"x":1} 1`, `/is/0/b O b {} "b"`, `/is/0/i O i {} "@O"`, `/is/0/i/k O k {} [1,null]`, `/is/0/i/s O s {} [[1],[2]]`, `/is/0/i/s O s {} [[1],[2]]`,
		`/is/1/b V b {} "b"`, `/is/1/u V u {} "@V"`, `/is/1/u/us V us {} [["@O","@V"],[]]`, `/is/1/u/us/0/0/b O b {} "x"`, `/is/1/u/us/0/1/b V b {} "x"`, `/is/2/b Query b {} "x"`,
		`/t Query t {} "@__Type:Query"`, `/q Query q {} "@Query"`, `/q/q Query q {} "@Query"`, `/q/b Query b {} "x"`, `/q/q/b Query b {} "x"`, `/q/q/q Query q {} "@Query"`, `/q/q/q/b Query b {} "x"`)}
}

func (h handed) run(types *typesys.Types) api.Result {
	return exec.Run(types, h.Doc, 0, h.Vars, h.Entries, 1000)
}

// The request of these tests has answers of all sorts.
func TestRichIsRich(t *testing.T) {
	types := sound(t, zoo)
	r := richHanded(t, types).run(types)
	if r.Data.Kind != api.KindObject || len(r.Faults) < 8 || len(r.Trace) < 25 || r.Nodes < 150 {
		t.Error(told(r))
	}
}

// eachList goes through all lists of a thing, those inside of a list ahead of it.
func eachList(v reflect.Value, do func(list reflect.Value)) {
	switch v.Kind() {
	case reflect.Struct:
		for i := range v.NumField() {
			eachList(v.Field(i), do)
		}
	case reflect.Slice:
		for i := range v.Len() {
			eachList(v.Index(i), do)
		}
		do(v)
	}
}

// marked is an element all of whose texts and numbers are set.
func marked(t reflect.Type) reflect.Value {
	out := reflect.New(t).Elem()
	switch t.Kind() {
	case reflect.Struct:
		for i := range t.NumField() {
			out.Field(i).Set(marked(t.Field(i).Type))
		}
	case reflect.String:
		out.SetString("spare")
	case reflect.Int, reflect.Int64:
		out.SetInt(77)
	}
	return out
}

// roomy is a deep copy in which each list has room to spare, and something in it.
func roomy(v reflect.Value) reflect.Value {
	out := reflect.New(v.Type()).Elem()
	switch v.Kind() {
	case reflect.Struct:
		for i := range v.NumField() {
			out.Field(i).Set(roomy(v.Field(i)))
		}
	case reflect.Slice:
		out.Set(reflect.MakeSlice(v.Type(), v.Len()+2, v.Len()+2))
		for i := range v.Len() {
			out.Index(i).Set(roomy(v.Index(i)))
		}
		out.Index(v.Len()).Set(marked(v.Type().Elem()))
		out.Set(out.Slice(0, v.Len()))
	default:
		out.Set(v)
	}
	return out
}

// full is a deep copy in which the lists' spare room counts.
func full(v reflect.Value) reflect.Value {
	out := reflect.New(v.Type()).Elem()
	switch v.Kind() {
	case reflect.Struct:
		for i := range v.NumField() {
			out.Field(i).Set(full(v.Field(i)))
		}
	case reflect.Slice:
		all := v.Slice(0, v.Cap())
		out.Set(reflect.MakeSlice(v.Type(), all.Len(), all.Len()))
		for i := range all.Len() {
			out.Index(i).Set(full(all.Index(i)))
		}
	default:
		out.Set(v)
	}
	return out
}

// overwrite writes over all lists of a thing, their spare room too.
func overwrite(thing any) {
	eachList(reflect.ValueOf(thing), func(list reflect.Value) {
		all := list.Slice(0, list.Cap())
		for i := range all.Len() {
			all.Index(i).Set(marked(all.Type().Elem()))
		}
	})
}

// seen is all that can be seen of a type system.
func seen(types *typesys.Types) []any {
	out := []any{types.Schema(), types.Names(), types.Directives()}
	for _, name := range types.Names() {
		def, _ := types.Type(name)
		out = append(out, def, types.Possible(name))
	}
	return out
}

// R3: what is handed in is left as it is, spare room too, and may be written over afterwards.
func TestArgumentsAreLeft(t *testing.T) {
	types := sound(t, zoo)
	system := seen(types)
	own := richHanded(t, types)
	want := even(own.run(types))
	h := roomy(reflect.ValueOf(own)).Interface().(handed)
	before := full(reflect.ValueOf(h)).Interface()
	got := h.run(types)
	alike(t, "the answer", got, want)
	if !reflect.DeepEqual(full(reflect.ValueOf(h)).Interface(), before) {
		t.Error("what was handed in was changed")
	}
	overwrite(h)
	alike(t, "the answer behind the arguments' change", got, want)
	if !reflect.DeepEqual(seen(types), system) {
		t.Error("the type system was changed")
	}
}

// P26.4: whatever is done to an answer, no other has it, nor what was handed in, nor the type system.
func TestAnswersAreNew(t *testing.T) {
	types := sound(t, zoo)
	h := richHanded(t, types)
	system, before := seen(types), full(reflect.ValueOf(h)).Interface()
	first, second := h.run(types), h.run(types)
	want := even(second)
	overwrite(first)
	alike(t, "an earlier answer", second, want)
	alike(t, "a later answer", h.run(types), want)
	if !reflect.DeepEqual(full(reflect.ValueOf(h)).Interface(), before) || !reflect.DeepEqual(seen(types), system) {
		t.Error("what was handed in was written over")
	}
}

// room is the memory of a list, its spare room too.
type room struct {
	from, to uintptr
	kind     string
}

func rooms(thing any) []room {
	var out []room
	eachList(reflect.ValueOf(thing), func(list reflect.Value) {
		if size := uintptr(list.Cap()) * list.Type().Elem().Size(); size > 0 {
			out = append(out, room{list.Pointer(), list.Pointer() + size, list.Type().String()})
		}
	})
	return out
}

// P26.4, R3: no two lists share memory, of one answer, of two, or of an answer and what was handed in.
func TestListsShareNone(t *testing.T) {
	types := sound(t, zoo)
	h := richHanded(t, types)
	one, two := h.run(types), h.run(types)
	all := slices.Concat(rooms(h), rooms(one), rooms(two))
	slices.SortFunc(all, func(a, b room) int { return cmp.Compare(a.from, b.from) })
	if len(all) < 250 {
		t.Fatal("lists:", len(all))
	}
	for i := 1; i < len(all); i++ {
		if all[i-1].to > all[i].from {
			t.Error("shared:", all[i-1].kind, "and", all[i].kind)
		}
	}
	runtime.KeepAlive([]any{h, one, two})
}

// What counts no more in a value is not answered: each value has zero in all fields that its kind doesn't use, and so has an answer that is over.
func TestZeroBeside(t *testing.T) {
	types := sound(t, zoo)
	h := richHanded(t, types)
	for i := range h.Entries {
		h.Entries[i].Out.Value = dirty(h.Entries[i].Out.Value)
	}
	alike(t, "the answer", h.run(types), richHanded(t, types).run(types))
	if r := exec.Run(types, h.Doc, 0, h.Vars, h.Entries, 20); !reflect.DeepEqual(r, api.Result{Over: true}) {
		t.Error(told(r))
	}
}

// dirty is a value in which all that doesn't count is set.
func dirty(v api.Value) api.Value {
	out := api.Value{Kind: v.Kind, Bool: true, Int: 7, Float: 7, Text: "x", Type: "O", Items: []api.Value{{}}, Fields: []api.Member{{}}}
	switch v.Kind {
	case api.KindBool:
		out.Bool = v.Bool
	case api.KindInt:
		out.Int = v.Int
	case api.KindFloat:
		out.Float = v.Float
	case api.KindString:
		out.Text = v.Text
	case api.KindHandle:
		out.Type, out.Text = v.Type, v.Text
	case api.KindList:
		out.Items = nil
		for _, item := range v.Items {
			out.Items = append(out.Items, dirty(item))
		}
	case api.KindObject:
		out.Fields = nil
		for _, m := range v.Fields {
			out.Fields = append(out.Fields, api.Member{Name: m.Name, Value: dirty(m.Value)})
		}
	}
	return out
}

// R2, P26.3: several that execute one operation over one table at one time, and write over what they are answered, are answered alike.
func TestAskedAtOneTime(t *testing.T) {
	types := sound(t, zoo)
	h := richHanded(t, types)
	want := even(h.run(types))
	var wait sync.WaitGroup
	wrong := make([]bool, 16)
	for i := range wrong {
		wait.Go(func() {
			for k := range 20 {
				got := h.run(types)
				wrong[i] = wrong[i] || !reflect.DeepEqual(even(got), want)
				overwrite(got)
				less := exec.Run(types, h.Doc, 0, h.Vars, h.Entries, k)
				wrong[i] = wrong[i] || !reflect.DeepEqual(less, api.Result{Over: true})
			}
		})
	}
	wait.Wait()
	if slices.Contains(wrong, true) {
		t.Error("answers were unlike")
	}
}

// All goroutines have ended when Run answers, where the nodes run out too, but for what the runtime itself has yet to do with them.
func TestNoGoroutineIsLeft(t *testing.T) {
	types := sound(t, zoo)
	h := richHanded(t, types)
	before := runtime.NumGoroutine()
	for i := range 600 {
		exec.Run(types, h.Doc, 0, h.Vars, h.Entries, i)
	}
	for range 1000 {
		if runtime.NumGoroutine() <= before {
			return
		}
		time.Sleep(time.Millisecond)
	}
	t.Error("goroutines:", runtime.NumGoroutine(), "at first", before)
}
