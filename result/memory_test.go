package result_test

import (
	"fmt"
	"reflect"
	"runtime"
	"slices"
	"sync"
	"testing"
	"unsafe"

	"pergola/api"
	"pergola/result"
	"pergola/typesys"
)

// answers are what all questions of these tests are answered.
type answers struct {
	Values []api.Value
	Names  []string
	Errnos []api.Errno
}

func leafNames() []string { return append(builtIn(), "E", "S", "T", "Nope") }

// handed are values of all kinds, with room to spare in their lists and something in it, and with noise.
func handed() []api.Value {
	bytes := []byte("A and more")
	return roomy(noisy(list(
		api.Value{}, truth(true), whole(7), float(7), text(string(bytes[:1])), text(string(bytes)),
		list(whole(1), list(text("deep text")), object(member("key", text("value")), member("rest", list(api.Value{})))),
		object(member("b", list(whole(1), whole(2))), member("a", object(member("c", text("more text"))))),
		list(isNaN), object(member("a", handle("T"))), handle("T"), handle("Query"),
	))).Items
}

// roomy is a copy of a value whose lists have room to spare, at every depth.
func roomy(v api.Value) api.Value {
	items, fields := v.Items, v.Fields
	v.Items, v.Fields = make([]api.Value, len(items), len(items)+2), make([]api.Member, len(fields), len(fields)+2)
	for i, item := range items {
		v.Items[i] = roomy(item)
	}
	for i, m := range fields {
		v.Fields[i] = member(m.Name, roomy(m.Value))
	}
	for i := range 2 {
		v.Items[:cap(v.Items)][len(items)+i] = text("spare")
		v.Fields[:cap(v.Fields)][len(fields)+i] = member("spare", whole(1))
	}
	return v
}

func ask(types *typesys.Types, all []api.Value) answers {
	var out answers
	for _, v := range all {
		for _, name := range leafNames() {
			made, errno := result.Leaf(types, name, v)
			out.Values, out.Errnos = append(out.Values, made), append(out.Errnos, errno)
		}
		for _, want := range []string{"Query", "N", "U", "T", "E"} {
			name, errno := result.Runtime(types, want, v)
			out.Names, out.Errnos = append(out.Names, name), append(out.Errnos, errno)
		}
	}
	return out
}

// eachValue goes through a value and all values to which its lists lead, their spare room too if so told.
func eachValue(v *api.Value, spare bool, do func(v *api.Value)) {
	items, fields := v.Items, v.Fields
	if spare {
		items, fields = items[:cap(items)], fields[:cap(fields)]
	}
	for i := range items {
		eachValue(&items[i], spare, do)
	}
	for i := range fields {
		eachValue(&fields[i].Value, spare, do)
	}
	do(v)
}

// overwrite writes over all lists of values, their spare room too.
func overwrite(all []api.Value) {
	for i := range all {
		eachValue(&all[i], true, func(v *api.Value) {
			for i := range v.Items[:cap(v.Items)] {
				v.Items[:cap(v.Items)][i] = text("overwritten")
			}
			for i := range v.Fields[:cap(v.Fields)] {
				v.Fields[:cap(v.Fields)][i] = member("overwritten", whole(3))
			}
		})
	}
}

// written is all that there is in values, their spare room too.
func written(all []api.Value) string {
	var out []api.Value
	for i := range all {
		eachValue(&all[i], true, func(v *api.Value) { out = append(out, *v) })
	}
	return fmt.Sprintf("%#v", out)
}

// seen is all that can be seen of a type system.
func seen(types *typesys.Types) string {
	out := fmt.Sprint(types.Schema(), types.Names())
	for _, name := range types.Names() {
		def, _ := types.Type(name)
		out += fmt.Sprint(def, types.Possible(name))
	}
	return out
}

func told(a answers) string { return fmt.Sprintf("%v", a) }

// P23.3: what is handed in is left as it is, spare room too, and may be written over afterwards.
func TestArgumentsAreLeft(t *testing.T) {
	types, all := sound(t, chapter), handed()
	system, before, want := seen(types), written(all), told(ask(types, handed()))
	got := ask(types, all)
	if written(all) != before {
		t.Error("what was handed in was changed")
	}
	overwrite(all)
	if told(got) != want {
		t.Errorf("an answer was written over with what was handed in: %v, want %s", got, want)
	}
	if seen(types) != system {
		t.Error("the type system was changed")
	}
}

// P23.3: whatever is done to an answer, no other has it, nor what was handed in, nor the type system.
func TestAnswersAreNew(t *testing.T) {
	types, all := sound(t, chapter), handed()
	system, before := seen(types), written(all)
	first, second := ask(types, all), ask(types, all)
	want := told(second)
	overwrite(first.Values)
	if got := told(second); got != want {
		t.Error("an earlier answer was written over")
	}
	if got := told(ask(types, all)); got != want {
		t.Error("a later answer is another")
	}
	if written(all) != before || seen(types) != system {
		t.Error("what was handed in was written over")
	}
}

// room is the memory of a list, spare room too, or of a text.
type room struct {
	from, to uintptr
	kind     string
}

// rooms are those of values.
func rooms(all []api.Value) []room {
	var out []room
	add := func(from unsafe.Pointer, size uintptr, kind string) {
		if size > 0 {
			out = append(out, room{uintptr(from), uintptr(from) + size, kind})
		}
	}
	for i := range all {
		eachValue(&all[i], false, func(v *api.Value) {
			add(unsafe.Pointer(unsafe.SliceData(v.Items)), uintptr(cap(v.Items))*unsafe.Sizeof(api.Value{}), "items")
			add(unsafe.Pointer(unsafe.SliceData(v.Fields)), uintptr(cap(v.Fields))*unsafe.Sizeof(api.Member{}), "fields")
			add(unsafe.Pointer(unsafe.StringData(v.Text)), uintptr(len(v.Text)), "text")
			for _, m := range v.Fields {
				add(unsafe.Pointer(unsafe.StringData(m.Name)), uintptr(len(m.Name)), "name")
			}
		})
	}
	return out
}

// P23.3: no answer shares memory with what was handed in, texts neither; no two lists of answers share any.
func TestNoMemoryIsShared(t *testing.T) {
	types, all := sound(t, chapter), handed()
	one, two := ask(types, all), ask(types, all)
	old, made := rooms(all), slices.Concat(rooms(one.Values), rooms(two.Values))
	if len(old) < 100 || len(made) < 40 {
		t.Fatal("rooms:", len(old), len(made))
	}
	for i, a := range made {
		for _, b := range old {
			if a.from < b.to && b.from < a.to {
				t.Error("shared with what was handed in:", a.kind, b.kind)
			}
		}
		for _, b := range made[:i] {
			// The texts of one byte, true and false are the language's own.
			if a.from < b.to && b.from < a.to && (a.kind == "items" || a.kind == "fields") {
				t.Error("shared by answers:", a.kind, b.kind)
			}
		}
	}
	runtime.KeepAlive([]any{all, one, two})
}

// P23.3: an object's name is neither the handle's memory nor the type system's.
func TestNameIsNew(t *testing.T) {
	types := sound(t, chapter)
	v := handle(string([]byte("Query")))
	name, errno := result.Runtime(types, "Query", v)
	if errno != api.OK {
		t.Fatal(errno)
	}
	for _, other := range append(types.Possible("Query"), append(types.Names(), v.Type)...) {
		if unsafe.StringData(name) == unsafe.StringData(other) {
			t.Error("the name is", other)
		}
	}
}

// R2: several that ask at one time, and write over what they are answered, are answered alike.
func TestAskedAtOneTime(t *testing.T) {
	types, all := sound(t, chapter), handed()
	want := ask(types, all)
	var wait sync.WaitGroup
	wrong := make([]bool, 16)
	for i := range wrong {
		wait.Go(func() {
			for range 20 {
				got := ask(types, all)
				wrong[i] = wrong[i] || !reflect.DeepEqual(got, want)
				overwrite(got.Values)
			}
		})
	}
	wait.Wait()
	if slices.Contains(wrong, true) {
		t.Error("answers were unlike")
	}
}
