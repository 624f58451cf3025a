package check_test

import (
	"reflect"
	"runtime"
	"slices"
	"sync"
	"testing"
	"time"

	"pergola/api"
	"pergola/check"
	"pergola/typesys"
)

// roomy is a deep copy in which each list has room to spare, and something in it.
func roomy(v reflect.Value) reflect.Value {
	out := reflect.New(v.Type()).Elem()
	switch v.Kind() {
	case reflect.Struct:
		for i := range v.NumField() {
			out.Field(i).Set(roomy(v.Field(i)))
		}
	case reflect.Slice:
		out.Set(reflect.MakeSlice(v.Type(), v.Len()+2, v.Len()+2))
		for i := range v.Len() {
			out.Index(i).Set(roomy(v.Index(i)))
		}
		out.Index(v.Len()).Set(marked(v.Type().Elem()))
		out.Set(out.Slice(0, v.Len()))
	default:
		out.Set(v)
	}
	return out
}

// marked is an element all of whose texts and numbers are set.
func marked(t reflect.Type) reflect.Value {
	out := reflect.New(t).Elem()
	switch t.Kind() {
	case reflect.Struct:
		for i := range t.NumField() {
			out.Field(i).Set(marked(t.Field(i).Type))
		}
	case reflect.String:
		out.SetString("spare")
	case reflect.Int:
		out.SetInt(77)
	}
	return out
}

// whole is a deep copy in which the lists' spare room counts.
func whole(v reflect.Value) reflect.Value {
	out := reflect.New(v.Type()).Elem()
	switch v.Kind() {
	case reflect.Struct:
		for i := range v.NumField() {
			out.Field(i).Set(whole(v.Field(i)))
		}
	case reflect.Slice:
		full := v.Slice(0, v.Cap())
		out.Set(reflect.MakeSlice(v.Type(), full.Len(), full.Len()))
		for i := range full.Len() {
			out.Index(i).Set(whole(full.Index(i)))
		}
	default:
		out.Set(v)
	}
	return out
}

// overwrite writes over all lists of a thing, their spare room too.
func overwrite(v reflect.Value) {
	switch v.Kind() {
	case reflect.Struct:
		for i := range v.NumField() {
			overwrite(v.Field(i))
		}
	case reflect.Slice:
		full := v.Slice(0, v.Cap())
		for i := range full.Len() {
			overwrite(full.Index(i))
			full.Index(i).Set(marked(full.Type().Elem()))
		}
	}
}

// seen is all that can be seen of a type system.
func seen(types *typesys.Types) []any {
	out := []any{types.Schema(), types.Names(), types.Directives()}
	for _, name := range types.Names() {
		def, _ := types.Type(name)
		out = append(out, def, types.Possible(name))
	}
	for _, name := range types.Directives() {
		def, _ := types.Directive(name)
		out = append(out, def)
	}
	return out
}

// R3: the document, spare room too, and the type system are left as they are.
func TestArgumentsAreLeft(t *testing.T) {
	types := sound(t, zoo)
	system := seen(types)
	for _, src := range []string{right, wrong} {
		doc := roomy(reflect.ValueOf(parse(t, src))).Interface().(api.Document)
		before := whole(reflect.ValueOf(doc)).Interface()
		faults := told(check.All(types, doc))
		deep := depths(doc)
		if !reflect.DeepEqual(whole(reflect.ValueOf(doc)).Interface(), before) {
			t.Error("the document was changed")
		}
		if !reflect.DeepEqual(seen(types), system) {
			t.Error("the type system was changed")
		}
		plain := parse(t, src)
		if faults != told(check.All(types, plain)) || deep != depths(plain) {
			t.Error("spare room is seen in an answer")
		}
	}
}

// R3: what is done to the document or to an answer is seen in no answer.
func TestAnswersAreNew(t *testing.T) {
	types := sound(t, zoo)
	doc := parse(t, wrong)
	first, second := check.All(types, doc), check.All(types, doc)
	want := told(first)
	overwrite(reflect.ValueOf(first))
	if got := told(second); got != want {
		t.Errorf("an earlier answer: got %s, want %s", got, want)
	}
	if got := told(check.All(types, doc)); got != want {
		t.Errorf("a later answer: got %s, want %s", got, want)
	}
	overwrite(reflect.ValueOf(doc))
	if got := told(second); got != want {
		t.Errorf("behind the document's change: got %s, want %s", got, want)
	}
}

// R3: no two lists of an answer share memory, spare room too.
func TestListsShareNone(t *testing.T) {
	faults := check.All(sound(t, zoo), parse(t, wrong))
	for i := range faults {
		want := told(slices.Concat(faults[:i], faults[i+1:]))
		overwrite(reflect.ValueOf(faults[i]))
		if got := told(slices.Concat(faults[:i], faults[i+1:])); got != want {
			t.Fatal("two lists share memory:", got)
		}
	}
	if len(faults) < 30 {
		t.Error("too few faults:", len(faults))
	}
}

// R2: several that ask of one type system and one document at one time are answered alike.
func TestAskedAtOneTime(t *testing.T) {
	types, doc := sound(t, zoo), parse(t, wrong)
	faults, deep := told(check.All(types, doc)), depths(doc)
	var wait sync.WaitGroup
	isWrong := make([]bool, 16)
	for i := range isWrong {
		wait.Go(func() {
			for range 100 {
				got := check.All(types, doc)
				isWrong[i] = isWrong[i] || told(got) != faults || depths(doc) != deep
				overwrite(reflect.ValueOf(got))
			}
		})
	}
	wait.Wait()
	if slices.Contains(isWrong, true) {
		t.Error("answers were unlike")
	}
}

// All's goroutines have ended when it answers, but for what the runtime itself has yet to do with them.
func TestNoGoroutineIsLeft(t *testing.T) {
	types, doc := sound(t, zoo), parse(t, wrong)
	before := runtime.NumGoroutine()
	for range 1000 {
		check.All(types, doc)
	}
	for range 1000 {
		if runtime.NumGoroutine() <= before {
			return
		}
		time.Sleep(time.Millisecond)
	}
	t.Error("goroutines:", runtime.NumGoroutine(), "at first", before)
}
